import PyProof.Rows.All
import Wide.All
import OpenK.AllK
import Wide.FinOn
import PyProof.EqAt
import PyProof.EqKinds
import PyProof.TupleCall
import PyProof.NeKinds
import PyProof.AttrMissHeap
import PyProof.ExcClass3
import PyProof.RulesAs
import PyProof.Rows.FStr
import OpenK.KOwn
import PyProof.NsDelKeeps
import PyProof.Rows.Catch
import PyProof.Rows.SetFrom
import PyProof.SetRoads
import PyProof.FactsAll.NoneType
import PyProof.Rows.StrNews2
import PyProof.StrLawsTight
import PyProof.StrLawsNeg
import KE.KRevIter
import PyProof.ZipIter
import KE.KItemsList
import PyProof.MinMaxWalk
import PyProof.WalksMore
import PyProof.FString5
import PyProof.Rows.SortShellK
import PySem.Challenge.RW_gluework_k41_overlaps_each_once
set_option Elab.async false
set_option linter.all false
set_option maxRecDepth 100000
namespace L2
open PySem PySem.Spec PyProof.Rows
abbrev Key := Sum Int Str
def keyIs : Key → Value → Bool
  | .inl k, v => Value.isInt k v
  | .inr x, v => Value.isStrOf x v
def keyH (w : World) : Key → Int
  | .inl k => hashInt k
  | .inr x => hashStr w x
theorem keyIs_shape : ∀ {k : Key} {v : Value}, keyIs k v = true → (∃ i t, k = Sum.inl i ∧ v = Value.int i t) ∨ (∃ x t, k = Sum.inr x ∧ v = Value.str x t)
  | .inl i, v, h => by
    obtain ⟨t, e⟩ := Value.isInt_shape (k := i) (v := v) h
    exact .inl ⟨i, t, rfl, e⟩
  | .inr x, v, h => by
    obtain ⟨t, e⟩ := Value.isStrOf_shape (x := x) (v := v) h
    exact .inr ⟨x, t, rfl, e⟩
theorem keyIs_int (i : Int) (t : Tok) : keyIs (.inl i) (.int i t) = true := by simp [keyIs, Value.isInt]
theorem keyIs_str (x : Str) (t : Tok) : keyIs (.inr x) (.str x t) = true := by simp [keyIs, Value.isStrOf]
theorem key_ll (a b : Int) : decide ((Sum.inl a : Key) = Sum.inl b) = (a == b) := by
  by_cases e : a = b
  · subst e; simp
  · have h : ¬ (Sum.inl a : Key) = Sum.inl b := fun q => e (Sum.inl.inj q)
    rw [decide_eq_false h]
    exact (beq_eq_false_iff_ne.mpr e).symm
theorem key_rr (a b : Str) : decide ((Sum.inr a : Key) = Sum.inr b) = decide (a = b) := by
  by_cases e : a = b
  · subst e; simp
  · have h : ¬ (Sum.inr a : Key) = Sum.inr b := fun q => e (Sum.inr.inj q)
    rw [decide_eq_false h, decide_eq_false e]
theorem key_lr (a : Int) (b : Str) : decide ((Sum.inl a : Key) = Sum.inr b) = false := decide_eq_false (fun q => nomatch q)
theorem key_rl (a : Str) (b : Int) : decide ((Sum.inr a : Key) = Sum.inl b) = false := decide_eq_false (fun q => nomatch q)
def mixKind (prog : Program) (w : World) : PySem.KeyKind prog w Key where
  is := keyIs
  hash := keyH w
  inj := fun v a b ha hb => by
    rcases keyIs_shape ha with ⟨i, t, rfl, rfl⟩ | ⟨x, t, rfl, rfl⟩
    · rcases keyIs_shape hb with ⟨j, u, rfl, e⟩ | ⟨y, u, rfl, e⟩
      · injection e with e1 _; rw [e1]
      · exact nomatch e
    · rcases keyIs_shape hb with ⟨j, u, rfl, e⟩ | ⟨y, u, rfl, e⟩
      · exact nomatch e
      · injection e with e1 _; rw [e1]
  byValue := fun k v h => by
    rcases keyIs_shape h with ⟨i, t, rfl, rfl⟩ | ⟨x, t, rfl, rfl⟩ <;> rfl
  pyHash := fun hv h => by
    rcases keyIs_shape hv with ⟨i, t, rfl, rfl⟩ | ⟨x, t, rfl, rfl⟩
    · exact wpAny_pyHash_int h
    · exact wpAny_pyHash_str h
  eqBool := fun hu hv h => by
    rcases keyIs_shape hu with ⟨i, t, rfl, rfl⟩ | ⟨x, t, rfl, rfl⟩
    · rcases keyIs_shape hv with ⟨j, u, rfl, rfl⟩ | ⟨y, u, rfl, rfl⟩
      · rw [key_ll] at h; exact wpAny_eqBool_int h
      · rw [key_lr] at h; exact SeqAt.EqAt.int_str i t y u _ _ _ _ h
    · rcases keyIs_shape hv with ⟨j, u, rfl, rfl⟩ | ⟨y, u, rfl, rfl⟩
      · rw [key_rl] at h; exact SeqAt.EqAt.str_int x t j u _ _ _ _ h
      · rw [key_rr] at h; exact wpAny_eqBool_str h
  «strs» := fun k x t v h => by
    rcases keyIs_shape h with ⟨i, u, rfl, e⟩ | ⟨y, u, rfl, e⟩
    · exact nomatch e
    · injection e with e1 _
      subst e1
      cases v <;> rfl
theorem mixKind_int (prog : Program) (w : World) (i : Int) (t : Tok) : (mixKind prog w).is (.inl i) (.int i t) = true := keyIs_int i t
theorem mixKind_str (prog : Program) (w : World) (x : Str) (t : Tok) : (mixKind prog w).is (.inr x) (.str x t) = true := keyIs_str x t
end L2
namespace L2
open PySem PySem.Spec PyProof.Rows
inductive V where
  | non | bl (b : Bool) | int (i : Int) | str (x : Str) | byt (b : Array UInt8) | flt (b : UInt64) | ref (a : Addr) | ty (n : String)
  deriving DecidableEq
def RelV : V → Value → Prop
  | .non, u => u = Value.none
  | .bl b, u => u = Value.bool b
  | .int i, u => ∃ t, u = Value.int i t
  | .str x, u => ∃ t, u = Value.str x t
  | .byt b, u => ∃ t, u = Value.bytes b t
  | .flt b, u => ∃ t, u = Value.float b t
  | .ref a, u => u = Value.ref a
  | .ty n, u => u = Value.type n
abbrev Vals : List V → List Value → Prop := Paired RelV
theorem Vals.length {xs : List V} {us : List Value} (r : Vals xs us) : xs.length = us.length := Paired.length r
theorem Vals.get : ∀ {xs : List V} {us : List Value} {i : Nat} {x : V}, Vals xs us → xs[i]? = some x → ∃ u, us[i]? = some u ∧ RelV x u
  | _, _, _, _, .nil, e => by simp at e
  | _, _, 0, _, .cons r _, e => by simp at e; subst e; exact ⟨_, rfl, r⟩
  | _, _, i + 1, x, .cons _ t, e => by
    obtain ⟨u, h1, h2⟩ := Vals.get (i := i) (x := x) t (by simpa using e)
    exact ⟨u, by simpa using h1, h2⟩
theorem Vals.set {x : V} {u : Value} (r : RelV x u) : ∀ {xs : List V} {us : List Value} (i : Nat), Vals xs us → Vals (xs.set i x) (us.set i u)
  | _, _, _, .nil => .nil
  | _, _, 0, .cons _ t => .cons r t
  | _, _, i + 1, .cons q t => .cons q (Vals.set r i t)
theorem Vals.append : ∀ {xs ys : List V} {us ws : List Value}, Vals xs us → Vals ys ws → Vals (xs ++ ys) (us ++ ws)
  | _, _, _, _, .nil, s => s
  | _, _, _, _, .cons r t, s => .cons r (Vals.append t s)
theorem Vals.take : ∀ {xs : List V} {us : List Value} (n : Nat), Vals xs us → Vals (xs.take n) (us.take n)
  | _, _, 0, _ => .nil
  | _, _, _ + 1, .nil => .nil
  | _, _, n + 1, .cons r t => .cons r (Vals.take n t)
theorem Vals.drop : ∀ {xs : List V} {us : List Value} (n : Nat), Vals xs us → Vals (xs.drop n) (us.drop n)
  | _, _, 0, r => r
  | _, _, _ + 1, .nil => .nil
  | _, _, n + 1, .cons _ t => Vals.drop n t
def RelO : Option V → Option Value → Prop
  | some v, some u => RelV v u
  | none, none => True
  | _, _ => False
def KV {κ : Type} : List (κ × V) → List (κ × Value) → Prop := Paired fun (p : κ × V) (q : κ × Value) => p.1 = q.1 ∧ RelV p.2 q.2
def kV : Key → V
  | .inl i => .int i
  | .inr x => .str x
inductive HO where
  | lst (xs : List V)
  | tup (xs : List V)
  | dK (kvs : List (Key × V)) | dT (kvs : List (List Key × V))
  | set (S : Int → Bool) (n : Nat)
  | ins (C dx : Addr) (fs : List (Str × V))
  | own (x : Addr)
  | xd (fs : List (Str × V))
  | met (f x : Addr)
  | rng (lo hi : Int)
  | frz (o : Obj) (u : HO)
  | tbl (ps : Array Value)
  | ext (φ : Heap → Prop)
abbrev Hp := Addr → Option HO
def upd (H : Hp) (a : Addr) (o : HO) : Hp := fun b => if b = a then some o else H b
theorem upd_same {H : Hp} {a : Addr} {o : HO} : upd H a o a = some o := by unfold upd; rw [if_pos rfl]
theorem upd_ne {H : Hp} {a b : Addr} {o : HO} (h : b ≠ a) : upd H a o b = H b := by unfold upd; rw [if_neg h]
theorem ne_of {H : Hp} {a b : Addr} {o u : HO} (h : H a = some o) (h' : H b = some u) (d : o ≠ u) : a ≠ b := by
  intro e; subst e; rw [h] at h'; exact d (Option.some.inj h')
theorem ne_of_none {H : Hp} {a b : Addr} {o : HO} (h : H a = some o) (h' : H b = none) : a ≠ b := by
  intro e; subst e; rw [h] at h'; cases h'
section
variable (P : Program) (w : World)
def ObjOk (H : Hp) (h : Heap) (a : Addr) : HO → Prop
  | .lst xs => xs.length ≤ sizeLine ∧ ∃ (its : List Value) (n : Nat), Vals xs its ∧ h.get? a = some { cls := .type "list", data := .seq its.toArray n }
  | .tup xs => xs.length ≤ sizeLine ∧ ∃ its : List Value, Vals xs its ∧ IsTup h a its.toArray
  | .dK kvs => kvs.length ≤ sizeLine ∧ (a == sysModules) = false ∧ ∃ vs, KV kvs vs ∧ h.DictOf (mixKind P w) a vs
  | .dT kvs => kvs.length ≤ sizeLine ∧ (a == sysModules) = false ∧ ∃ xs : List (List Key × Addr × Value),
      Paired (fun (p : List Key × V) (q : List Key × Addr × Value) => p.1 = q.1 ∧ H q.2.1 = some (.tup (p.1.map kV)) ∧ RelV p.2 q.2.2) kvs xs ∧
      ∃ o es ep, h.get? a = some o ∧ o.ExactDict ∧ o.data = .dict es ep ∧ es.toList = xs.map (entryOfKey (tupleKind (mixKind P w))) ∧ (xs.map (·.1)).Nodup
  | .set S n => h.SetOf (intKind P w) a S n
  | .ins C dx fs => H dx = some (.own a) ∧ fs.length ≤ 1000 ∧ dx ≠ a ∧ h.get? a = some (PySem.W.instObj C dx) ∧
      ∃ mA, h.Ns1 dx mA ∧ (∀ f, RelO (fs.lookup f) (mA f)) ∧ PySem.Within mA (fs.map (·.1))
  | .own _ => ∃ o, h.get? a = some o
  | .xd fs => ∃ mA, h.Ns1 a mA ∧ ∀ f, RelO (fs.lookup f) (mA f)
  | .rng lo hi => ∃ t u v, h.get? a = some { cls := .type "range", data := .fields #[.int lo t, .int hi u, .int 1 v] }
  | .frz o u => h.get? a = some o ∧ ObjOk H h a u
  | .tbl ps => h.get? a = some { cls := .none, data := .fields ps }
  | .met f x => h.get? a = some (PySem.W.methodObj (.ref f) (.ref x))
  | .ext φ => φ h ∧ (∃ o, h.get? a = some o) ∧ ∀ h1 h2 : Heap, φ h1 → (∀ o, h1.get? a = some o → h2.get? a = some o) → φ h2
def HOk (H : Hp) (h : Heap) : Prop := ∀ a o, H a = some o → ObjOk P w H h a o
end
section
variable {P : Program} {w : World} {H H' : Hp} {h h' : Heap} {a : Addr} {o : HO}
theorem ObjOk.lt (x : ObjOk P w H h a o) : a < h.objs.size := by
  cases o with
  | lst xs => obtain ⟨_, _, _, _, e⟩ := x; exact Heap.lt_size e
  | tup xs => obtain ⟨_, _, _, p⟩ := x; exact p.lt
  | dK kvs => obtain ⟨_, _, _, _, o, _, _, e, _⟩ := x; exact Heap.lt_size e
  | dT kvs => obtain ⟨_, _, _, _, o, _, _, e, _⟩ := x; exact Heap.lt_size e
  | set S n => obtain ⟨o, _, _, _, e, _⟩ := x; exact Heap.lt_size e
  | ins C dx fs => obtain ⟨_, _, _, e, _⟩ := x; exact Heap.lt_size e
  | own y => obtain ⟨_, e⟩ := x; exact Heap.lt_size e
  | xd fs => obtain ⟨_, ⟨_, _, _, e, _⟩, _⟩ := x; exact Heap.lt_size e
  | rng lo hi => obtain ⟨_, _, _, e⟩ := x; exact Heap.lt_size e
  | frz ob u => obtain ⟨e, _⟩ := x; exact Heap.lt_size e
  | tbl ps => exact Heap.lt_size (show h.get? a = some _ from x)
  | met f y => exact Heap.lt_size (show h.get? a = some _ from x)
  | ext φ => obtain ⟨_, ⟨_, e⟩, _⟩ := x; exact Heap.lt_size e
theorem Paired.mapP {α β : Type} {F G : α → β → Prop} : ∀ {l₁ : List α} {l₂ : List β}, Paired F l₁ l₂ → (∀ a b, F a b → G a b) → Paired G l₁ l₂
  | _, _, .nil, _ => .nil
  | _, _, .cons r t, f => .cons (f _ _ r) (Paired.mapP t f)
theorem Paired.imp' {α β : Type} {F G : α → β → Prop} (f : ∀ a b, F a b → G a b) {l₁ : List α} {l₂ : List β} (r : Paired F l₁ l₂) : Paired G l₁ l₂ := Paired.mapP r f
theorem ObjOk.stay (x : ObjOk P w H h a o) (k : ∀ b u, (b = a ∨ H b = some (.own a)) → h.get? b = some u → h'.get? b = some u)
    (ho : ∀ b, H b = some (.own a) → H' b = some (.own a)) (ht : ∀ b xs, H b = some (.tup xs) → H' b = some (.tup xs)) : ObjOk P w H' h' a o := by
  induction o with
  | lst xs => obtain ⟨z, its, n, r, e⟩ := x; exact ⟨z, its, n, r, k _ _ (.inl rfl) e⟩
  | tup xs => obtain ⟨z, its, r, ob, e, c⟩ := x; exact ⟨z, its, r, ob, k _ _ (.inl rfl) e, c⟩
  | dK kvs => obtain ⟨z, y, vs, r, ob, es, ep, e, c⟩ := x; exact ⟨z, y, vs, r, ob, es, ep, k _ _ (.inl rfl) e, c⟩
  | dT kvs =>
    obtain ⟨z, y, xs, r, ob, es, ep, e, c⟩ := x
    exact ⟨z, y, xs, Paired.mapP r fun p q z => ⟨z.1, ht _ _ z.2.1, z.2.2⟩, ob, es, ep, k _ _ (.inl rfl) e, c⟩
  | set S n => obtain ⟨ob, es, ep, t, e, c⟩ := x; exact ⟨ob, es, ep, t, k _ _ (.inl rfl) e, c⟩
  | ins C dx fs =>
    obtain ⟨d, z, ne, e, mA, ⟨od, es, ep, e2, c⟩, r⟩ := x
    exact ⟨ho _ d, z, ne, k _ _ (.inl rfl) e, mA, ⟨od, es, ep, k _ _ (.inr d) e2, c⟩, r⟩
  | own y => obtain ⟨ob, e⟩ := x; exact ⟨ob, k _ _ (.inl rfl) e⟩
  | xd fs => obtain ⟨mA, ⟨od, es, ep, e, c⟩, r⟩ := x; exact ⟨mA, ⟨od, es, ep, k _ _ (.inl rfl) e, c⟩, r⟩
  | rng lo hi => obtain ⟨t, u, v, e⟩ := x; exact ⟨t, u, v, k _ _ (.inl rfl) e⟩
  | frz ob u ih => obtain ⟨e, q⟩ := x; exact ⟨k _ _ (.inl rfl) e, ih q⟩
  | tbl ps =>
    have e : h.get? a = some { cls := .none, data := .fields ps } := x
    show h'.get? a = some { cls := .none, data := .fields ps }
    exact k a _ (.inl rfl) e
  | met f y =>
    have e : h.get? a = some (PySem.W.methodObj (.ref f) (.ref y)) := x
    show h'.get? a = some (PySem.W.methodObj (.ref f) (.ref y))
    exact k a _ (.inl rfl) e
  | ext φ => obtain ⟨p, ⟨o, e⟩, st⟩ := x; exact ⟨st _ _ p fun o q => k _ _ (.inl rfl) q, ⟨o, k _ _ (.inl rfl) e⟩, st⟩
theorem HOk.lt (x : HOk P w H h) (e : H a = some o) : a < h.objs.size := (x a o e).lt
theorem HOk.fresh (x : HOk P w H h) (e : h.objs.size ≤ a) : H a = none := by
  cases q : H a with
  | none => rfl
  | some u => exact absurd (Nat.lt_of_lt_of_le (x.lt q) e) (Nat.lt_irrefl _)
theorem HOk.kept (x : HOk P w H h) (k : ∀ b u, h.get? b = some u → h'.get? b = some u) : HOk P w H h' := fun a o e =>
  (x a o e).stay (fun b u _ q => k b u q) (fun _ q => q) fun _ _ q => q
theorem HOk.laid (x : HOk P w H h) (k : ∀ b u, h.get? b = some u → h'.get? b = some u) (hp : h.objs.size ≤ a) (new : ObjOk P w (upd H a o) h' a o) : HOk P w (upd H a o) h' := fun b u e => by
  have hn := x.fresh hp
  by_cases hb : b = a
  · subst hb; rw [upd_same] at e; cases e; exact new
  · rw [upd_ne hb] at e
    exact (x b u e).stay (fun c v _ q => k c v q) (fun c q => by rw [upd_ne (ne_of_none q hn)]; exact q) fun c xs q => by rw [upd_ne (ne_of_none q hn)]; exact q
end
def Rd (H : Hp) (a : Addr) (u : HO) : Prop := H a = some u ∨ ∃ o, H a = some (.frz o u)
theorem Rd.ok {P : Program} {w : World} {H : Hp} {h : Heap} {a : Addr} {u : HO} (r : Rd H a u) (x : HOk P w H h) : ObjOk P w H h a u := by
  rcases r with r | ⟨o, r⟩
  · exact x a u r
  · obtain ⟨_, q⟩ := x a _ r
    exact q
def Mut : Option HO → Prop
  | some (.lst _) => True
  | some (.dK _) => True
  | some (.dT _) => True
  | some (.set _ _) => True
  | some (.ins _ _ _) => True
  | some (.ext _) => True
  | _ => False
section
variable {P : Program} {w : World} {H : Hp} {h h' : Heap} {x e : Addr} {o' : HO}
theorem HOk.write (ok : HOk P w H h) (mu : Mut (H x)) (he : e = x ∨ H e = some (.own x)) (k : ∀ b u, b ≠ e → h.get? b = some u → h'.get? b = some u) (heo : ∃ u, h'.get? e = some u)
    (new : ObjOk P w (upd H x o') h' x o') : HOk P w (upd H x o') h' := fun b u q => by
  have nown : ∀ c y, H c = some (.own y) → c ≠ x := fun c y r z => by subst z; rw [r] at mu; exact mu
  have ntup : ∀ c xs, H c = some (.tup xs) → c ≠ x := fun c xs r z => by subst z; rw [r] at mu; exact mu
  by_cases hb : b = x
  · subst hb; rw [upd_same] at q; cases q; exact new
  · rw [upd_ne hb] at q
    by_cases hbe : b = e
    · have q' : H b = some (.own x) := by
        rcases he with z | z
        · exact absurd (hbe.trans z) hb
        · rw [hbe]; exact z
      rw [q] at q'; cases q'
      obtain ⟨v, hv⟩ := heo
      exact ⟨v, by rw [hbe]; exact hv⟩
    · refine (ok b u q).stay (fun c v hc r => k c v ?_ r) (fun c r => by rw [upd_ne (nown c b r)]; exact r) fun c xs r => by rw [upd_ne (ntup c xs r)]; exact r
      rcases hc with rfl | hc
      · exact hbe
      · rintro rfl
        rcases he with z | z
        · exact nown c b hc z
        · rw [hc] at z; cases z; exact hb rfl
end
structure Un (fs ex : List Addr) (H H' : Hp) (h h' : Heap) : Prop where
  keep : ∀ b o, h.get? b = some o → H b = none → b ∉ fs → b ∉ ex → h'.get? b = some o
  slot : ∀ b o, h.get? b = some o → H b = none → b ∈ fs → b ∉ ex → ∃ sl, h'.get? b = some { o with slots := sl }
  free : ∀ b o, h.get? b = some o → H b = none → b ∉ ex → H' b = none
  there : ∀ b o, h.get? b = some o → b ∉ ex → ∃ o', h'.get? b = some o'
  tups : ∀ b xs, H b = some (.tup xs) → H' b = some (.tup xs)
  frzs : ∀ b o u, H b = some (.frz o u) → H' b = some (.frz o u)
  tbls : ∀ b ps, H b = some (.tbl ps) → ∃ more, H' b = some (.tbl (ps ++ more))
section
variable {fs fs' ex ex' : List Addr} {H H1 H2 : Hp} {h h1 h2 h' : Heap} {a x e : Addr} {o : HO}
theorem Un.any (u : Un fs ex H H1 h h1) {b : Addr} {ob : Obj} (q : h.get? b = some ob) (n : H b = none) (hx : b ∉ ex) : ∃ sl, h1.get? b = some { ob with slots := sl } := by
  by_cases hb : b ∈ fs
  · exact u.slot b ob q n hb hx
  · exact ⟨ob.slots, u.keep b ob q n hb hx⟩
theorem Un.kept (k : ∀ b u, h.get? b = some u → h'.get? b = some u) : Un fs ex H H h h' :=
  ⟨fun b ob q _ _ _ => k b ob q, fun b ob q _ _ _ => ⟨ob.slots, k b ob q⟩, fun _ _ _ n _ => n, fun b ob q _ => ⟨ob, k b ob q⟩, fun _ _ q => q, fun _ _ _ q => q, fun _ ps q => ⟨#[], by rw [q]; simp⟩⟩
theorem Un.refl : Un fs ex H H h h := Un.kept fun _ _ q => q
theorem Un.laid (k : ∀ b u, h.get? b = some u → h'.get? b = some u) (hp : h.objs.size ≤ a) (hn : H a = none) : Un fs ex H (upd H a o) h h' where
  keep := fun b u q _ _ _ => k b u q
  slot := fun b u q _ _ _ => ⟨u.slots, k b u q⟩
  free := fun b u q n _ => by rw [upd_ne (Nat.ne_of_lt (Nat.lt_of_lt_of_le (Heap.lt_size q) hp))]; exact n
  there := fun b u q _ => ⟨u, k b u q⟩
  tups := fun b xs q => by rw [upd_ne (ne_of_none q hn)]; exact q
  frzs := fun b u xs q => by rw [upd_ne (ne_of_none q hn)]; exact q
  tbls := fun b ps q => ⟨#[], by rw [upd_ne (ne_of_none q hn), q]; simp⟩
theorem Un.write (mu : Mut (H x)) (he : e = x ∨ H e = some (.own x)) (k : ∀ b u, b ≠ e → h.get? b = some u → h'.get? b = some u) (heo : ∃ u, h'.get? e = some u) : Un fs ex H (upd H x o) h h' := by
  have hx : ∀ b, H b = none → b ≠ x := fun b n z => by subst z; rw [n] at mu; exact mu
  have hb : ∀ b, H b = none → b ≠ e := fun b n z => by
    subst z
    rcases he with r | r
    · exact hx b n r
    · rw [n] at r; cases r
  have hm : ∀ b u, H b = some u → ¬ Mut (some u) → b ≠ x := fun b u q nm z => by subst z; rw [q] at mu; exact nm mu
  refine ⟨fun b u q n _ _ => k b u (hb b n) q, fun b u q n _ _ => ⟨u.slots, k b u (hb b n) q⟩, fun b u q n _ => by rw [upd_ne (hx b n)]; exact n, fun b u q _ => ?_,
    fun b xs q => by rw [upd_ne (hm b _ q fun z => z)]; exact q, fun b u xs q => by rw [upd_ne (hm b _ q fun z => z)]; exact q, fun b ps q => ⟨#[], by rw [upd_ne (hm b _ q fun z => z), q]; simp⟩⟩
  by_cases hbe : b = e
  · subst hbe; exact heo
  · exact ⟨u, k b u hbe q⟩
end
def trk (h : Heap) (H : Hp) : List Addr := (List.range h.objs.size).filter fun a => (H a).isSome
def hidT (h : Heap) (H : Hp) : Heap := PySem.W.hideAll h (trk h H)
theorem hidT_size (h : Heap) (H : Hp) : (hidT h H).objs.size = h.objs.size := PySem.W.hideAll_size _ _
theorem hidT_get {h : Heap} {H : Hp} {b : Addr} {o : Obj} (e : h.get? b = some o) (n : H b = none) : (hidT h H).get? b = some o :=
  PySem.W.hideAll_get _ e fun hm => by
    have q : (H b).isSome = true := (List.mem_filter.mp hm).2
    rw [n] at q; simp at q
theorem of_hidT {h : Heap} {H : Hp} {b : Addr} {o : Obj} (e : (hidT h H).get? b = some o) : h.get? b = some o ∧ H b = none := by
  have e' : h.get? b = some o := PySem.W.of_hideAll (trk h H) e
  refine ⟨e', ?_⟩
  cases q : H b with
  | none => rfl
  | some x =>
    have hm : b ∈ trk h H := List.mem_filter.mpr ⟨List.mem_range.mpr (Heap.lt_size e'), by simp [q]⟩
    have z : (hidT h H).get? b = none := PySem.W.hideAll_none (trk h H) hm
    rw [z] at e; cases e
def allNews (g h : Heap) (L : Addr) : List (Addr × Obj) := (List.range h.objs.size).filterMap fun a => if a = L ∨ (g.get? a).isSome = true then none else (h.get? a).map fun o => (a, o)
def rest (g h : Heap) (L d : Addr) : List (Addr × Obj) := (allNews g h L).filter fun p => decide (p.1 ≠ d)
end L2
namespace L2
open PySem PySem.Spec PyProof.Rows
structure Mod (K : PySem.W.Frag) (mg : Str → Option Value) (base : Heap) : Prop where
  kin : K.In base
  glob : base.Ns mainGlobals mg
  blt : ∃ mb, base.Ns builtinsNs mb ∧ ∀ x : Str, x ≠ "__name__" → mb x = bootBuiltins x
  nolimit : base.NoLimit
structure Cx where
  prog : Program
  w : World
  K : PySem.W.Frag
  mg : Str → Option Value
  base : Heap
  A : Around
  N : List Str
  s₀ : Shared
  H₀ : Hp
  env : Env
  outer : List Env
  stack : List Env
  ex : List Addr
  fn : Str → Bool
  calm : Bool
  pn : List (Addr × Obj)
  xe : Value → Shared → Prop
def frs (l : List Env) : List Addr := l.filterMap (·.frame)
abbrev Cx.fs (X : Cx) : List Addr := frs X.outer
def Vis (sc : Scope) (x : Str) : Prop := sc.names.lookup x = some .local ∨ sc.names.lookup x = some .cell ∨ sc.names.lookup x = some .free
def Loc (sc : Scope) (x : Str) : Prop := sc.names.lookup x = some .local ∨ sc.names.lookup x = some .cell
def Look (env : Env) (h : Heap) (m : Str → Option Value) (x : Str) (u : Value) : Prop :=
  (env.kindOf x = some .local ∧ m x = some u) ∨ ((env.kindOf x = some .cell ∨ env.kindOf x = some .free) ∧ ∃ c, env.cells.lookup x = some c ∧ h.IsCell c (some u))
structure Cx.Ok (X : Cx) : Prop where
  mod : Mod X.K X.mg X.base
  kind : X.env.scope.kind = .function
  glob : X.env.globals = mainGlobals
  blt : X.env.builtins = builtinsNs
  above : X.s₀.heap.objs.size ≤ X.env.locals
  inj : ∀ x y c, X.env.cells.lookup x = some c → X.env.cells.lookup y = some c → x = y
  has : ∀ x, (X.env.kindOf x = some .cell ∨ X.env.kindOf x = some .free) → ∃ c, X.env.cells.lookup x = some c
  cab : ∀ x c, X.fn x = true → X.env.cells.lookup x = some c → X.s₀.heap.objs.size ≤ c
  hd : X.calm = true → X.A.handled = none
  frames : X.A.frames = some X.stack
  stk : X.stack = X.outer ∨ (X.stack = X.env :: X.outer ∧ X.env.frame = some X.env.locals)
  exf : ∀ b ∈ X.ex, b ≠ X.env.locals ∧ ∀ x c, X.env.cells.lookup x = some c → c ≠ b
  bs : ∀ b o, X.base.get? b = some o → X.s₀.heap.get? b = some o ∧ X.H₀ b = none
  bsz : X.base.objs.size ≤ X.s₀.heap.objs.size
  noex : ∀ b o, X.base.get? b = some o → b ∉ X.ex
  exfs : ∀ b ∈ X.ex, b ∉ X.fs
  funs : X.s₀.heap.FunFrames X.base X.outer
  frf : ∀ b ∈ X.fs, X.H₀ b = none
structure Inv (X : Cx) (pins : List (Addr × Obj)) (σ : List (Option V)) (H : Hp) (s : Shared) : Prop where
  ok : X.Ok
  os : s.os = X.s₀.os
  bare : AllBare s.gens
  base : Un X.fs X.ex X.H₀ H X.s₀.heap s.heap
  loc : ∃ m, s.heap.Ns X.env.locals m ∧ ∀ (i : Nat) (x : Str) (v : V), X.N[i]? = some x → σ[i]? = some (some v) → Vis X.env.scope x → ∃ u, RelV v u ∧ Look X.env s.heap m x u
  cell : ∀ x c, X.env.cells.lookup x = some c → ∃ v, s.heap.IsCell c v
  free : H X.env.locals = none
  freeC : ∀ x c, X.env.cells.lookup x = some c → H c = none
  pin : ∀ p ∈ X.pn ++ pins, s.heap.get? p.1 = some p.2 ∧ H p.1 = none ∧ p.1 ≠ X.env.locals ∧ p.1 ∉ X.fs ∧ ∀ v, p.2.data ≠ .cell v
  hok : HOk X.prog X.w H s.heap
  len : σ.length = X.N.length
section
variable {X : Cx} {pins : List (Addr × Obj)} {σ : List (Option V)} {H H' : Hp} {s : Shared} {h' : Heap}
theorem Cx.Ok.nofr (ok : X.Ok) {b : Addr} {o : Obj} (e : X.base.get? b = some o) : b ∉ X.fs := fun hb => by
  have := (ok.funs.mem hb).1
  rw [e] at this; cases this
theorem Inv.bs (I : Inv X pins σ H s) : ∀ b o, X.base.get? b = some o → s.heap.get? b = some o ∧ H b = none := fun b o e =>
  ⟨I.base.keep b o (I.ok.bs b o e).1 (I.ok.bs b o e).2 (I.ok.nofr e) (I.ok.noex b o e), I.base.free b o (I.ok.bs b o e).1 (I.ok.bs b o e).2 (I.ok.noex b o e)⟩
theorem Inv.bk (I : Inv X pins σ H s) : ∀ b o, X.base.get? b = some o → s.heap.get? b = some o := fun b o e => (I.bs b o e).1
theorem Inv.mod (I : Inv X pins σ H s) : Mod X.K X.mg X.base := I.ok.mod
theorem Inv.kIn (I : Inv X pins σ H s) : X.K.In s.heap := I.ok.mod.kin.keeps I.bk
theorem Inv.lt (I : Inv X pins σ H s) : X.env.locals < s.heap.objs.size := let ⟨_, hn, _⟩ := I.loc; hn.lt
theorem Inv.sz (I : Inv X pins σ H s) : X.s₀.heap.objs.size ≤ s.heap.objs.size := Nat.le_trans I.ok.above (Nat.le_of_lt I.lt)
theorem Inv.nofs (I : Inv X pins σ H s) {a : Addr} (h : s.heap.objs.size ≤ a) : a ∉ X.fs := fun hb => by
  obtain ⟨_, o, ho, _⟩ := I.ok.funs.mem hb
  exact absurd (Nat.lt_of_lt_of_le (Heap.lt_size ho) (Nat.le_trans I.sz h)) (Nat.lt_irrefl _)
theorem Inv.cne (I : Inv X pins σ H s) : ∀ x c, X.env.cells.lookup x = some c → c ≠ X.env.locals := fun x c e z => by
  obtain ⟨v, o, ho, hd⟩ := I.cell x c e
  obtain ⟨m, ⟨o', es, ep, ho', hd', _⟩, _⟩ := I.loc
  rw [z, ho'] at ho; cases ho; rw [hd'] at hd; cases hd
theorem Inv.funs (I : Inv X pins σ H s) : s.heap.FunFrames X.base X.outer := by
  have all : ∀ (l : List Env), (∀ b ∈ frs l, b ∈ X.fs) → X.s₀.heap.FunFrames X.base l → s.heap.FunFrames X.base l := by
    intro l
    induction l with
    | nil => intro _ _; trivial
    | cons env r ih =>
      intro hs hl
      obtain ⟨hk, ⟨L, o, hf, hn, ho, hd⟩, hr⟩ := hl
      have hL : L ∈ X.fs := hs L (by unfold frs; rw [List.filterMap_cons, hf]; exact List.mem_cons_self)
      obtain ⟨sl, e⟩ := I.base.slot L o ho (I.ok.frf L hL) hL fun z => I.ok.exfs L z hL
      exact ⟨hk, ⟨L, _, hf, hn, e, hd⟩, ih (fun b hb => hs b (by unfold frs; rw [List.filterMap_cons, hf]; exact List.mem_cons_of_mem _ hb)) hr⟩
  exact all X.outer (fun _ hb => hb) I.ok.funs
theorem Inv.stack (I : Inv X pins σ H s) : s.heap.FunFrames X.base X.stack := by
  rcases I.ok.stk with e | ⟨e, hf⟩
  · rw [e]; exact I.funs
  · rw [e]
    obtain ⟨m, hn, _⟩ := I.loc
    refine .cons (by rw [I.ok.kind]; decide) hf hn ?_ I.funs
    exact Heap.get?_none_of_le (Nat.le_trans I.ok.bsz I.ok.above)
theorem Inv.stkSub (I : Inv X pins σ H s) : ∀ b ∈ frs X.stack, b ∈ X.env.locals :: X.fs := fun b hb => by
  rcases I.ok.stk with e | ⟨e, hf⟩
  · rw [e] at hb; exact List.mem_cons_of_mem _ hb
  · rw [e] at hb
    unfold frs at hb
    rw [List.filterMap_cons, hf] at hb
    exact hb
theorem Inv.stkFree (I : Inv X pins σ H s) : ∀ b ∈ frs X.stack, H b = none := fun b hb => by
  rcases List.mem_cons.mp (I.stkSub b hb) with e | hb
  · rw [e]; exact I.free
  · obtain ⟨_, o, ho, _⟩ := I.ok.funs.mem hb
    exact I.base.free b o ho (I.ok.frf b hb) fun z => I.ok.exfs b z hb
theorem Inv.step {g' : Array GenState} {t' : Nat} {d' : Drawn} {ch : List Addr} (I : Inv X pins σ H s)
    (hch : ∀ b ∈ ch, (b ∈ X.ex ∨ X.s₀.heap.objs.size ≤ b) ∧ b ≠ X.env.locals ∧ (∀ x c, X.env.cells.lookup x = some c → c ≠ b) ∧ ∀ p ∈ X.pn ++ pins, p.1 ≠ b)
    (keep : ∀ b o, b ≠ X.env.locals → b ∉ X.fs → b ∉ ch → s.heap.get? b = some o → H b = none → h'.get? b = some o)
    (slot : ∀ b o, b ≠ X.env.locals → b ∈ X.fs → b ∉ ch → s.heap.get? b = some o → H b = none → ∃ sl, h'.get? b = some { o with slots := sl }) (free : ∀ b o, b ∉ ch → s.heap.get? b = some o → H b = none → H' b = none)
    (there : ∀ b o, b ∉ ch → s.heap.get? b = some o → ∃ o', h'.get? b = some o')
    (tups : ∀ b xs, H b = some (.tup xs) → H' b = some (.tup xs)) (frzs : ∀ b o u, H b = some (.frz o u) → H' b = some (.frz o u)) (tbls : ∀ b ps, H b = some (.tbl ps) → ∃ more, H' b = some (.tbl (ps ++ more)))
    (ns : ∀ m, s.heap.Ns X.env.locals m → h'.Ns X.env.locals m) (hok : HOk X.prog X.w H' h') (hg : AllBare g') :
    Inv X pins σ H' { s with heap := h', gens := g', drawn := d', toks := t' } := by
  have neL : ∀ b o, X.s₀.heap.get? b = some o → b ≠ X.env.locals := fun b o e => Nat.ne_of_lt (Nat.lt_of_lt_of_le (Heap.lt_size e) I.ok.above)
  have neC : ∀ b o, X.s₀.heap.get? b = some o → b ∉ X.ex → b ∉ ch := fun b o e hx hb => by
    rcases (hch b hb).1 with z | z
    · exact hx z
    · exact absurd (Nat.lt_of_lt_of_le (Heap.lt_size e) z) (Nat.lt_irrefl _)
  have cellK : ∀ x c, X.env.cells.lookup x = some c → ∀ v, s.heap.IsCell c v → h'.IsCell c v := fun x c e v ⟨o, ho, hd⟩ => by
    have nch : c ∉ ch := fun z => (hch c z).2.2.1 x c e rfl
    by_cases hc : c ∈ X.fs
    · obtain ⟨sl, q⟩ := slot c o (I.cne x c e) hc nch ho (I.freeC x c e)
      exact ⟨_, q, hd⟩
    · exact ⟨o, keep c o (I.cne x c e) hc nch ho (I.freeC x c e), hd⟩
  refine ⟨I.ok, I.os, hg, ⟨fun b o e n hb hx => ?_, fun b o e n hb hx => ?_, fun b o e n hx => ?_, fun b o e hx => ?_, fun b xs e => tups b xs (I.base.tups b xs e), fun b o xs e => frzs b o xs (I.base.frzs b o xs e), fun b ps e => ?_⟩, ?_, fun x c e => ?_, ?_, fun x c e => ?_, fun p hp => ?_, hok, I.len⟩
  · exact keep b o (neL b o e) hb (neC b o e hx) (I.base.keep b o e n hb hx) (I.base.free b o e n hx)
  · obtain ⟨sl, e1⟩ := I.base.slot b o e n hb hx
    obtain ⟨sl', e2⟩ := slot b _ (neL b o e) hb (neC b o e hx) e1 (I.base.free b o e n hx)
    exact ⟨sl', e2⟩
  · obtain ⟨o', e1⟩ := I.base.there b o e hx
    exact free b o' (neC b o e hx) e1 (I.base.free b o e n hx)
  · obtain ⟨o', e1⟩ := I.base.there b o e hx
    exact there b o' (neC b o e hx) e1
  · obtain ⟨m1, e1⟩ := I.base.tbls b ps e
    obtain ⟨m2, e2⟩ := tbls b _ e1
    exact ⟨m1 ++ m2, by rw [e2, Array.append_assoc]⟩
  · obtain ⟨m, hn, hl⟩ := I.loc
    refine ⟨m, ns m hn, fun i x v e1 e2 e3 => ?_⟩
    obtain ⟨u, r, l⟩ := hl i x v e1 e2 e3
    refine ⟨u, r, ?_⟩
    rcases l with l | ⟨k, c, e, z⟩
    · exact .inl l
    · exact .inr ⟨k, c, e, cellK x c e _ z⟩
  · obtain ⟨v, z⟩ := I.cell x c e
    exact ⟨v, cellK x c e v z⟩
  · obtain ⟨m, ⟨o, _, _, ho, _⟩, _⟩ := I.loc
    exact free _ o (fun z => (hch _ z).2.1 rfl) ho I.free
  · obtain ⟨v, o, ho, hd⟩ := I.cell x c e
    exact free c o (fun z => (hch c z).2.2.1 x c e rfl) ho (I.freeC x c e)
  · obtain ⟨e, n, ne, nf, d⟩ := I.pin p hp
    have nch : p.1 ∉ ch := fun z => (hch p.1 z).2.2.2 p hp rfl
    exact ⟨keep p.1 p.2 ne nf nch e n, free p.1 p.2 nch e n, ne, nf, d⟩
theorem Inv.un {t' : Nat} (I : Inv X pins σ H s) (u : Un X.fs [] H H' s.heap h') (hok : HOk X.prog X.w H' h') : Inv X pins σ H' { s with heap := h', toks := t' } := by
  obtain ⟨m, ⟨o, es, ep, ho, r⟩, _⟩ := id I.loc
  obtain ⟨sl, hL⟩ := u.any ho I.free (by simp)
  exact I.step (g' := s.gens) (d' := s.drawn) (ch := []) (fun _ z => nomatch z) (fun b o _ hb _ e n => u.keep b o e n hb (by simp)) (fun b o _ hb _ e n => u.slot b o e n hb (by simp)) (fun b o _ e n => u.free b o e n (by simp)) (fun b o _ e => u.there b o e (by simp)) u.tups u.frzs u.tbls (fun m' hm => by
    obtain ⟨o', es', ep', ho', r'⟩ := hm
    rw [ho] at ho'; cases ho'
    exact ⟨_, es', ep', hL, r'⟩) hok I.bare
theorem Inv.call {g' : Array GenState} {t' : Nat} {d' : Drawn} {ch : List Addr} (I : Inv X pins σ H s) (u : Un (frs X.stack) ch H H' s.heap h') (hok : HOk X.prog X.w H' h') (hg : AllBare g')
    (hch : ∀ b ∈ ch, (b ∈ X.ex ∨ X.s₀.heap.objs.size ≤ b) ∧ b ≠ X.env.locals ∧ (∀ x c, X.env.cells.lookup x = some c → c ≠ b) ∧ ∀ p ∈ X.pn ++ pins, p.1 ≠ b) :
    Inv X pins σ H' { s with heap := h', gens := g', drawn := d', toks := t' } := by
  obtain ⟨m, ⟨o, es, ep, ho, r⟩, _⟩ := id I.loc
  obtain ⟨sl, hL⟩ := u.any ho I.free fun z => (hch _ z).2.1 rfl
  exact I.step (ch := ch) hch (fun b o hL hb hc e n => u.keep b o e n (fun z => (List.mem_cons.mp (I.stkSub b z)).elim hL hb) hc) (fun b o _ _ hc e n => u.any e n hc) (fun b o hc e n => u.free b o e n hc) (fun b o hc e => u.there b o e hc) u.tups u.frzs u.tbls (fun m' hm => by
    obtain ⟨o', es', ep', ho', r'⟩ := hm
    rw [ho] at ho'; cases ho'
    exact ⟨_, es', ep', hL, r'⟩) hok hg
theorem Inv.turned {t' : Nat} {it : Addr} (I : Inv X pins σ H s) (k : ∀ b o, b ≠ it → s.heap.get? b = some o → h'.get? b = some o) (hn : H it = none) (hL : it ≠ X.env.locals)
    (h1 : it ∈ X.ex ∨ X.s₀.heap.objs.size ≤ it) (h2 : ∀ x c, X.env.cells.lookup x = some c → c ≠ it) (h3 : ∀ p ∈ X.pn ++ pins, p.1 ≠ it) : Inv X pins σ H { s with heap := h', toks := t' } := by
  have nit : ∀ b u, H b = some u → b ≠ it := fun b u e z => by rw [z, hn] at e; cases e
  refine I.step (g' := s.gens) (d' := s.drawn) (ch := [it]) (fun b hb => ?_) (fun b o _ _ hc e _ => k b o (fun z => hc (by simp [z])) e) (fun b o _ _ hc e _ => ⟨o.slots, k b o (fun z => hc (by simp [z])) e⟩) (fun _ _ _ _ n => n)
    (fun b o hc e => ⟨o, k b o (fun z => hc (by simp [z])) e⟩) (fun _ _ e => e) (fun _ _ _ e => e) (fun b ps e => ⟨#[], by rw [e]; simp⟩) (fun m hm => ?_) (fun b u e => ?_) I.bare
  · have e : b = it := by simpa using hb
    subst e
    exact ⟨h1, hL, h2, h3⟩
  · obtain ⟨o, es, ep, ho, r⟩ := hm
    exact ⟨o, es, ep, k _ o (Ne.symm hL) ho, r⟩
  · refine (I.hok b u e).stay (fun c v hc q => k c v ?_ q) (fun _ q => q) fun _ _ q => q
    rcases hc with z | z
    · rw [z]; exact nit b u e
    · exact nit c _ z
theorem Inv.tok (I : Inv X pins σ H s) (t : Nat) : Inv X pins σ H { s with toks := t } := I.un (h' := s.heap) (t' := t) Un.refl I.hok
theorem Inv.kept {t' : Nat} (I : Inv X pins σ H s) (k : ∀ b u, s.heap.get? b = some u → h'.get? b = some u) : Inv X pins σ H { s with heap := h', toks := t' } := I.un (Un.kept k) (I.hok.kept k)
theorem Inv.laid {a : Addr} {o : HO} {t' : Nat} (I : Inv X pins σ H s) (k : ∀ b u, s.heap.get? b = some u → h'.get? b = some u) (hp : s.heap.objs.size ≤ a) (new : ObjOk X.prog X.w (upd H a o) h' a o) :
    Inv X pins σ (upd H a o) { s with heap := h', toks := t' } := I.un (Un.laid k hp (I.hok.fresh hp)) (I.hok.laid k hp new)
theorem Inv.write {x e : Addr} {o : HO} {t' : Nat} (I : Inv X pins σ H s) (mu : Mut (H x)) (he : e = x ∨ H e = some (.own x)) (k : ∀ b u, b ≠ e → s.heap.get? b = some u → h'.get? b = some u) (heo : ∃ u, h'.get? e = some u)
    (new : ObjOk X.prog X.w (upd H x o) h' x o) : Inv X pins σ (upd H x o) { s with heap := h', toks := t' } := I.un (Un.write mu he k heo) (I.hok.write mu he k heo new)
theorem Inv.weak {σ' : List (Option V)} (I : Inv X pins σ H s) (hl : σ'.length = σ.length) (w : ∀ (i : Nat) v, σ'[i]? = some (some v) → σ[i]? = some (some v)) : Inv X pins σ' H s :=
  ⟨I.ok, I.os, I.bare, I.base, let ⟨m, hn, hl'⟩ := I.loc; ⟨m, hn, fun i x v e1 e2 e3 => hl' i x v e1 (w i v e2) e3⟩, I.cell, I.free, I.freeC, I.pin, I.hok, hl.trans I.len⟩
theorem Inv.pins_of {pins' : List (Addr × Obj)} (I : Inv X pins σ H s) (h : ∀ p ∈ pins', s.heap.get? p.1 = some p.2 ∧ H p.1 = none ∧ p.1 ≠ X.env.locals ∧ p.1 ∉ X.fs ∧ ∀ v, p.2.data ≠ .cell v) : Inv X pins' σ H s :=
  ⟨I.ok, I.os, I.bare, I.base, I.loc, I.cell, I.free, I.freeC, fun p hp => (List.mem_append.mp hp).elim (fun z => I.pin p (List.mem_append_left _ z)) (h p), I.hok, I.len⟩
theorem nodup_ix {N : List Str} (hN : N.Nodup) {i j : Nat} {x : Str} (a : N[i]? = some x) (b : N[j]? = some x) : i = j := by
  obtain ⟨h1, e1⟩ := List.getElem?_eq_some_iff.mp a
  obtain ⟨h2, e2⟩ := List.getElem?_eq_some_iff.mp b
  exact (List.getElem_inj hN).mp (e1.trans e2.symm)
theorem store_ok2 {M : Model} {A : Around} {E : Value → Shared → Prop} {i : Nat} {x : Str} {v : V} {u : Value} {Q : Unit → Shared → Prop} (I : Inv X pins σ H s) (hN : X.N.Nodup) (hi : X.N[i]? = some x) (hx : Loc X.env.scope x) (r : RelV v u)
    (h : ∀ s', Inv X pins (σ.set i (some v)) H s' → (∃ a, Heap.SameBut a s.heap s'.heap ∧ (a = X.env.locals ∨ X.env.cells.lookup x = some a)) → Q () s') (hf : X.fn x = true ∨ X.env.scope.names.lookup x = some .local := by first | exact .inl rfl | exact .inr rfl | assumption) : wpAny M A (storeName X.env x u) Q E s := by
  obtain ⟨m, hn, hl⟩ := id I.loc
  have hcls : (X.env.scope.kind == .class || (X.env.scope.kind == .module && X.env.locals != X.env.globals)) = false := by rw [I.ok.kind]; rfl
  have hiσ : i < σ.length := by rw [I.len]; exact (List.getElem?_eq_some_iff.mp hi).1
  have cne := I.cne
  have tracked : ∀ {a : Addr} {h' : Heap}, (∃ o, s.heap.get? a = some o ∧ H a = none) → Heap.SameBut a s.heap h' → HOk X.prog X.w H h' := fun {a h'} ha hs b ob e => by
    obtain ⟨_, _, hfree⟩ := ha
    refine (I.hok b ob e).stay (fun c w' hc q => (hs.2 c ?_).trans q) (fun _ q => q) fun _ _ q => q
    rintro rfl
    rcases hc with rfl | hc
    · rw [hfree] at e; cases e
    · rw [hfree] at hc; cases hc
  rcases hx with hk | hk
  · refine wpAny_storeName_local hk hn (fun h' hn' hs => ?_) hcls
    obtain ⟨oL, _, _, hoL, _⟩ := id hn
    refine h _ ⟨I.ok, I.os, I.bare, ⟨fun b o e n hb hx => ?_, fun b o e n hb hx => ?_, I.base.free, fun b o e hx => ?_, I.base.tups, I.base.frzs, I.base.tbls⟩, ⟨_, hn', fun j y v' e1 e2 e3 => ?_⟩, fun y c e => ?_, I.free, I.freeC, fun p hp => ?_, tracked ⟨oL, hoL, I.free⟩ hs, by simpa using I.len⟩ ⟨_, hs, .inl rfl⟩
    · exact (hs.2 b (Nat.ne_of_lt (Nat.lt_of_lt_of_le (Heap.lt_size e) I.ok.above))).trans (I.base.keep b o e n hb hx)
    · obtain ⟨sl, e1⟩ := I.base.slot b o e n hb hx
      exact ⟨sl, (hs.2 b (Nat.ne_of_lt (Nat.lt_of_lt_of_le (Heap.lt_size e) I.ok.above))).trans e1⟩
    · obtain ⟨o', e1⟩ := I.base.there b o e hx
      exact ⟨o', (hs.2 b (Nat.ne_of_lt (Nat.lt_of_lt_of_le (Heap.lt_size e) I.ok.above))).trans e1⟩
    · by_cases hj : j = i
      · subst hj
        rw [hi] at e1; cases e1
        rw [List.getElem?_set_self hiσ] at e2
        cases e2
        exact ⟨u, r, .inl ⟨hk, by simp⟩⟩
      · rw [List.getElem?_set_ne (Ne.symm hj)] at e2
        obtain ⟨u', r', q⟩ := hl j y v' e1 e2 e3
        refine ⟨u', r', ?_⟩
        rcases q with ⟨k, e⟩ | ⟨k, c, e, z⟩
        · refine .inl ⟨k, ?_⟩
          have : y ≠ x := fun e => hj (nodup_ix hN e1 (e ▸ hi))
          simp [this, e]
        · exact .inr ⟨k, c, e, z.sameBut hs (cne y c e)⟩
    · obtain ⟨w', z⟩ := I.cell y c e
      exact ⟨w', z.sameBut hs (cne y c e)⟩
    · obtain ⟨e, n, ne, nf, d⟩ := I.pin p hp
      exact ⟨(hs.2 p.1 ne).trans e, n, ne, nf, d⟩
  · have hfn : X.fn x = true := by
      rcases hf with z | z
      · exact z
      · rw [z] at hk; cases hk
    obtain ⟨c, hc⟩ := I.ok.has x (.inl hk)
    obtain ⟨w', z⟩ := I.cell x c hc
    refine wpAny_storeName_cell I.ok.kind hk hc z (fun h' hc' hs => ?_)
    obtain ⟨oc, hoc, hocd⟩ := id z
    refine h { s with heap := h' } ⟨I.ok, I.os, I.bare, ⟨fun b o e n hb hx => ?_, fun b o e n hb hx => ?_, I.base.free, fun b o e hx => ?_, I.base.tups, I.base.frzs, I.base.tbls⟩, ⟨m, hn.sameBut hs (Ne.symm (cne x c hc)), fun j y v' e1 e2 e3 => ?_⟩, fun y c' e => ?_, I.free, I.freeC, fun p hp => ?_, tracked ⟨oc, hoc, I.freeC x c hc⟩ hs, by simpa using I.len⟩ ⟨c, hs, .inr hc⟩
    · exact (hs.2 b (Nat.ne_of_lt (Nat.lt_of_lt_of_le (Heap.lt_size e) (I.ok.cab x c hfn hc)))).trans (I.base.keep b o e n hb hx)
    · obtain ⟨sl, e1⟩ := I.base.slot b o e n hb hx
      exact ⟨sl, (hs.2 b (Nat.ne_of_lt (Nat.lt_of_lt_of_le (Heap.lt_size e) (I.ok.cab x c hfn hc)))).trans e1⟩
    · obtain ⟨o', e1⟩ := I.base.there b o e hx
      exact ⟨o', (hs.2 b (Nat.ne_of_lt (Nat.lt_of_lt_of_le (Heap.lt_size e) (I.ok.cab x c hfn hc)))).trans e1⟩
    · by_cases hj : j = i
      · subst hj
        rw [hi] at e1; cases e1
        rw [List.getElem?_set_self hiσ] at e2
        cases e2
        exact ⟨u, r, .inr ⟨.inl hk, c, hc, hc'⟩⟩
      · rw [List.getElem?_set_ne (Ne.symm hj)] at e2
        obtain ⟨u', r', q⟩ := hl j y v' e1 e2 e3
        refine ⟨u', r', ?_⟩
        rcases q with q | ⟨k, c', e, z'⟩
        · exact .inl q
        · refine .inr ⟨k, c', e, z'.sameBut hs ?_⟩
          rintro rfl
          exact hj (nodup_ix hN e1 (I.ok.inj _ _ _ e hc ▸ hi))
    · by_cases hcc : c' = c
      · subst hcc; exact ⟨_, hc'⟩
      · obtain ⟨w2, z2⟩ := I.cell y c' e
        exact ⟨w2, z2.sameBut hs hcc⟩
    · obtain ⟨e, n, ne, nf, d⟩ := I.pin p hp
      refine ⟨(hs.2 p.1 ?_).trans e, n, ne, nf, d⟩
      intro q
      rw [q, hoc] at e
      have q' : oc = p.2 := Option.some.inj e
      exact d w' (by rw [← q']; exact hocd)
theorem store_ok {M : Model} {A : Around} {E : Value → Shared → Prop} {i : Nat} {x : Str} {v : V} {u : Value} {Q : Unit → Shared → Prop} (I : Inv X pins σ H s) (hN : X.N.Nodup) (hi : X.N[i]? = some x) (hx : Loc X.env.scope x) (r : RelV v u)
    (h : ∀ s', Inv X pins (σ.set i (some v)) H s' → Q () s') (hf : X.fn x = true ∨ X.env.scope.names.lookup x = some .local := by first | exact .inl rfl | exact .inr rfl | assumption) : wpAny M A (storeName X.env x u) Q E s :=
  store_ok2 I hN hi hx r (fun s' I' _ => h s' I') hf
theorem Inv.call' {s' : Shared} {ch : List Addr} (I : Inv X pins σ H s) (ho : s'.os = s.os) (u : Un (frs X.stack) ch H H' s.heap s'.heap) (hok : HOk X.prog X.w H' s'.heap) (hg : AllBare s'.gens)
    (hch : ∀ b ∈ ch, (b ∈ X.ex ∨ X.s₀.heap.objs.size ≤ b) ∧ b ≠ X.env.locals ∧ (∀ x c, X.env.cells.lookup x = some c → c ≠ b) ∧ ∀ p ∈ X.pn ++ pins, p.1 ≠ b) : Inv X pins σ H' s' := by
  obtain ⟨h', g', d', t', o'⟩ := s'
  have e : o' = s.os := ho
  subst e
  exact I.call (g' := g') (t' := t') (d' := d') u hok hg hch
end
abbrev XK := Value → Option Addr → Hp → Prop
abbrev St := List (Option V)
abbrev VK := V → Hp → Prop
abbrev TE := St → Hp → VK → Prop
abbrev TT := St → Hp → (Bool → Hp → Prop) → Prop
abbrev TA := St → Hp → (List V → Hp → Prop) → Prop
structure Ends where
  nx : St → Hp → Prop
  rt : VK
  bk : St → Hp → Prop := fun _ _ => False
  ct : St → Hp → Prop := fun _ _ => False
abbrev TS := Ends → St → Hp → Prop
def EP (X : Cx) (pins : List (Addr × Obj)) (σ : St) (Q : VK) (u : Value) (s' : Shared) : Prop := ∃ v H', Inv X pins σ H' s' ∧ RelV v u ∧ Q v H'
def TP (X : Cx) (pins : List (Addr × Obj)) (σ : St) (Q : Bool → Hp → Prop) (b : Bool) (s' : Shared) : Prop := ∃ H', Inv X pins σ H' s' ∧ Q b H'
def AP (X : Cx) (pins : List (Addr × Obj)) (σ : St) (Q : List V → Hp → Prop) (us : List Value) (s' : Shared) : Prop := ∃ vs H', Inv X pins σ H' s' ∧ Vals vs us ∧ Q vs H'
def SP (X : Cx) (pins : List (Addr × Obj)) (D : Ends) (f : Flow) (s' : Shared) : Prop :=
  match f with
  | .next => ∃ σ' H', Inv X pins σ' H' s' ∧ D.nx σ' H'
  | .brk => ∃ σ' H', Inv X pins σ' H' s' ∧ D.bk σ' H'
  | .cont => ∃ σ' H', Inv X pins σ' H' s' ∧ D.ct σ' H'
  | .ret u => ∃ v σ' H', Inv X pins σ' H' s' ∧ RelV v u ∧ D.rt v H'
def PE (X : Cx) (e : Expr) (t : TE) : Prop :=
  ∀ (pins : List (Addr × Obj)) (s : Shared) (σ : St) (H : Hp) (Q : VK), Inv X pins σ H s → t σ H Q → wpAny (model X.prog X.w) X.A (eval e X.env) (EP X pins σ Q) X.xe s
def PT (X : Cx) (e : Expr) (t : TT) : Prop :=
  ∀ (pins : List (Addr × Obj)) (s : Shared) (σ : St) (H : Hp) (Q : Bool → Hp → Prop), Inv X pins σ H s → t σ H Q → wpAny (model X.prog X.w) X.A (isTrue e X.env (eval e X.env)) (TP X pins σ Q) X.xe s
def PW (X : Cx) (e : Expr) (t : TT) : Prop :=
  ∀ (whole : Sem Value) (pins : List (Addr × Obj)) (s : Shared) (σ : St) (H : Hp) (Q : Bool → Hp → Prop), Inv X pins σ H s → t σ H Q → wpAny (model X.prog X.w) X.A (isTrue e X.env whole) (TP X pins σ Q) X.xe s
theorem PW.pt {X : Cx} {e : Expr} {t : TT} (h : PW X e t) : PT X e t := h _
def PA (X : Cx) (es : List Expr) (t : TA) : Prop :=
  ∀ (pos : Pos) (pins : List (Addr × Obj)) (s : Shared) (σ : St) (H : Hp) (Q : List V → Hp → Prop), Inv X pins σ H s → t σ H Q → wpAny (model X.prog X.w) X.A (spliced (backTo pos (starEach es X.env))) (AP X pins σ Q) X.xe s
def PS (X : Cx) (st : Stmt) (t : TS) : Prop :=
  ∀ (pins : List (Addr × Obj)) (s : Shared) (σ : St) (H : Hp) (D : Ends), Inv X pins σ H s → t D σ H → wpAny (model X.prog X.w) X.A (exec st X.env) (SP X pins D) X.xe s
def PSs (X : Cx) (st : List Stmt) (t : TS) : Prop :=
  ∀ (pins : List (Addr × Obj)) (s : Shared) (σ : St) (H : Hp) (D : Ends), Inv X pins σ H s → t D σ H → wpAny (model X.prog X.w) X.A (execs st X.env) (SP X pins D) X.xe s
theorem thn {α : Type} {t : Sem α} {Q Q' : α → Shared → Prop} {M : Model} {A : Around} {E : Value → Shared → Prop} {s : Shared} (h : wpAny M A t Q E s) (hQ : ∀ a s, Q a s → Q' a s) : wpAny M A t Q' E s := wpAny_mono h hQ fun _ _ x => x
end L2
namespace L2
open PySem PySem.Spec PyProof.Rows
section
variable {X : Cx}
def tVar (i : Nat) : TE := fun σ H Q => ∃ v, σ[i]? = some (some v) ∧ Q v H
def tC (v : V) : TE := fun _ H Q => Q v H
theorem pe_var {i : Nat} {x : Str} {pos : Pos} (hN : X.N[i]? = some x) (hv : Vis X.env.scope x) (hd : (x == ("__debug__" : Str)) = false := by decide) (hcd : (x == ("__classdict__" : Str)) = false := by decide) : PE X (.Name x pos) (tVar i) := by
  intro pins s σ H Q I h
  obtain ⟨v, e, h⟩ := h
  obtain ⟨m, hn, hl⟩ := I.loc
  obtain ⟨u, r, l⟩ := hl i x v hN e hv
  have fin : EP X pins σ Q u s := ⟨v, H, I, r, h⟩
  rcases l with ⟨hk, hm⟩ | ⟨hk, c, hc, hcell⟩
  · exact wpAny_Name (wpAny_loadName_local I.ok.kind hk hn hm fin) hd
  · rcases hk with hk | hk
    · exact wpAny_Name (wpAny_loadName_cell I.ok.kind hk hc hcell fin) hd
    · exact wpAny_Name (wpAny_loadName_free I.ok.kind hk hc hcell fin hcd) hd
theorem pe_int {i j pos} : PE X (.Constant (.int i) j pos) (tC (.int i)) := fun _ _ _ H _ I h => wpAny_Constant_int ⟨.int i, H, I.tok _, ⟨_, rfl⟩, h⟩
theorem pe_bl {b j pos} : PE X (.Constant (.bool b) j pos) (tC (.bl b)) := fun _ _ _ H _ I h => Constant_bool ⟨.bl b, H, I, rfl, h⟩
theorem pe_str {x j pos} : PE X (.Constant (.str x) j pos) (tC (.str x)) := fun _ _ _ H _ I h => Calls.Constant_str ⟨.str x, H, I.tok _, ⟨_, rfl⟩, h⟩
def Gl (X : Cx) (x : Str) : Prop := X.env.kindOf x = some .globalImplicit
theorem ld_glob {E : Value → Shared → Prop} {pins : List (Addr × Obj)} {s : Shared} {σ : St} {H : Hp} {x : Str} {u : Value} {pos : Pos} {Q : Value → Shared → Prop} (I : Inv X pins σ H s) (hg : Gl X x) (hm : X.mg x = some u) (h : Q u s)
    (hd : (x == ("__debug__" : Str)) = false := by decide) : wpAny (model X.prog X.w) X.A (eval (.Name x pos) X.env) Q E s :=
  Calls.Name_function_global I.ok.kind hg (Calls.loadGlobal_global (by rw [I.ok.glob]; exact I.mod.glob.keeps I.bk) hm h) hd
theorem ld_blt {E : Value → Shared → Prop} {pins : List (Addr × Obj)} {s : Shared} {σ : St} {H : Hp} {x : Str} {u : Value} {pos : Pos} {Q : Value → Shared → Prop} (I : Inv X pins σ H s) (hg : Gl X x) (hm : X.mg x = none) (hv : bootBuiltins x = some u) (h : Q u s)
    (hn : x ≠ "__name__" := by decide) (hd : (x == ("__debug__" : Str)) = false := by decide) : wpAny (model X.prog X.w) X.A (eval (.Name x pos) X.env) Q E s := by
  obtain ⟨mb, h1, h2⟩ := I.mod.blt
  exact Calls.Name_function_global I.ok.kind hg (Calls.loadGlobal_builtin (by rw [I.ok.glob]; exact I.mod.glob.keeps I.bk) hm (by rw [I.ok.blt]; exact h1.keeps I.bk) ((h2 x hn).trans hv) h) hd
theorem pe_bltn {x : Str} {v : V} {u : Value} {pos : Pos} (hg : Gl X x) (hm : X.mg x = none) (hv : bootBuiltins x = some u) (r : RelV v u) (hn : x ≠ "__name__" := by decide) (hd : (x == ("__debug__" : Str)) = false := by decide) : PE X (.Name x pos) (tC v) :=
  fun _ _ _ H _ I h => ld_blt I hg hm hv ⟨v, H, I, r, h⟩ hn hd
variable {a b : Expr} {ta tb : TE} {pos : Pos}
variable {tA tB' : TT} {rest : List Expr}
def tAnd (t u : TT) : TT := fun σ H Q => t σ H fun c H1 => if c = true then u σ H1 Q else Q false H1
def tOr (t u : TT) : TT := fun σ H Q => t σ H fun c H1 => if c = true then Q true H1 else u σ H1 Q
def tNot (t : TT) : TT := fun σ H Q => t σ H fun c H1 => Q (!c) H1
theorem pw_and1 (ha : PT X a tA) : PW X (.BoolOp .And [a] pos) tA := by
  intro wh pins s σ H Q I h
  refine isTrue_and (thn (ha pins s σ H Q I h) fun c s1 e => ?_)
  cases c with
  | true => exact isTrue_and_nil e
  | false => exact e
theorem pw_or1 (ha : PT X a tA) : PW X (.BoolOp .Or [a] pos) tA := by
  intro wh pins s σ H Q I h
  refine isTrue_or (thn (ha pins s σ H Q I h) fun c s1 e => ?_)
  cases c with
  | false => exact isTrue_or_nil e
  | true => exact e
theorem pw_and (ha : PT X a tA) (hb : PW X (.BoolOp .And (b :: rest) pos) tB') : PW X (.BoolOp .And (a :: b :: rest) pos) (tAnd tA tB') := by
  intro wh pins s σ H Q I h
  refine isTrue_and (thn (ha pins s σ H _ I h) fun c s1 ⟨H1, I1, q1⟩ => ?_)
  cases c with
  | true => exact hb wh pins s1 σ H1 Q I1 q1
  | false => exact ⟨H1, I1, q1⟩
theorem pw_or (ha : PT X a tA) (hb : PW X (.BoolOp .Or (b :: rest) pos) tB') : PW X (.BoolOp .Or (a :: b :: rest) pos) (tOr tA tB') := by
  intro wh pins s σ H Q I h
  refine isTrue_or (thn (ha pins s σ H _ I h) fun c s1 ⟨H1, I1, q1⟩ => ?_)
  cases c with
  | true => exact ⟨H1, I1, q1⟩
  | false => exact hb wh pins s1 σ H1 Q I1 q1
theorem pt_not (ha : PT X a tA) : PT X (.UnaryOp .Not a pos) (tNot tA) := by
  intro pins s σ H Q I h
  exact isTrue_not (ha pins s σ H (fun c H1 => Q (!c) H1) I h)
def tAndV (ta tb : TE) : TE := fun σ H Q => ta σ H fun x H1 => ∃ c, x = .bl c ∧ if c = true then tb σ H1 Q else Q (.bl false) H1
theorem pe_one {op} {t : TE} (h : PE X a t) : PE X (.BoolOp op [a] pos) t := fun pins s σ H Q I hw => BoolOp_one (h pins s σ H Q I hw)
theorem pe_and (ha : PE X a ta) (hb : PE X (.BoolOp .And (b :: rest) pos) tb) : PE X (.BoolOp .And (a :: b :: rest) pos) (tAndV ta tb) := by
  intro pins s σ H Q I h
  refine BoolOp_and (thn (ha pins s σ H _ I h) fun v s1 ⟨x, H1, I1, r1, q1⟩ => ?_)
  obtain ⟨c, rfl, q1⟩ := q1
  cases r1
  refine wpAny_truthy_bool ?_
  cases c with
  | true => exact hb pins s1 σ H1 Q I1 q1
  | false => exact ⟨.bl false, H1, I1, rfl, q1⟩
end
end L2
namespace L2
open PySem PySem.Spec PyProof.Rows
def SqL (K : PySem.W.Frag) (H : Hp) (a : Addr) (xs : List V) : Prop :=
  Rd H a (.lst xs) ∨
    ∃ (o : Obj) (its : Array Value) (n : Nat), K.lookup a = some o ∧ o.cls = .type "list" ∧ o.dict = none ∧ o.data = .seq its n ∧ its.size ≤ sizeLine ∧ Vals xs its.toList
def SqT (K : PySem.W.Frag) (H : Hp) (a : Addr) (xs : List V) : Prop :=
  Rd H a (.tup xs) ∨
    ∃ (o : Obj) (its : Array Value) (n : Nat), K.lookup a = some o ∧ o.cls = .type "tuple" ∧ o.data = .seq its n ∧ its.size ≤ sizeLine ∧ Vals xs its.toList
def absV : Value → Option V
  | .none => some .non
  | .bool b => some (.bl b)
  | .int i _ => some (.int i)
  | .str x _ => some (.str x)
  | .bytes b _ => some (.byt b)
  | .float b _ => some (.flt b)
  | .ref a => some (.ref a)
  | .type n => some (.ty n)
  | _ => none
theorem RelV.abs {x : V} {u : Value} (r : RelV x u) : absV u = some x := by
  cases x with
  | non => cases r; rfl
  | bl _ => cases r; rfl
  | int _ => obtain ⟨t, rfl⟩ := r; rfl
  | str _ => obtain ⟨t, rfl⟩ := r; rfl
  | byt _ => obtain ⟨t, rfl⟩ := r; rfl
  | flt _ => obtain ⟨t, rfl⟩ := r; rfl
  | ref _ => cases r; rfl
  | ty _ => cases r; rfl
theorem RelV.inj {x y : V} {u : Value} (r : RelV x u) (q : RelV y u) : x = y := Option.some.inj (r.abs.symm.trans q.abs)
theorem Vals.inj : ∀ {xs ys : List V} {us : List Value}, Vals xs us → Vals ys us → xs = ys
  | _, _, _, .nil, .nil => rfl
  | _, _, _, .cons r t, .cons r' t' => by rw [r.inj r', Vals.inj t t']
section
variable {X : Cx} {pins : List (Addr × Obj)} {σ : St} {H : Hp} {s : Shared} {a : Addr} {xs ys : List V}
theorem SqL.of {K : PySem.W.Frag} (h : H a = some (.lst xs)) : SqL K H a xs := .inl (.inl h)
theorem SqT.of {K : PySem.W.Frag} (h : H a = some (.tup xs)) : SqT K H a xs := .inl (.inl h)
theorem Inv.list (I : Inv X pins σ H s) (h : SqL X.K H a xs) : ∃ its : List Value, Vals xs its ∧ PlainL s.heap a its.toArray ∧ xs.length ≤ sizeLine := by
  rcases h with h | ⟨o, its, n, hk, hc, hd, hs, hz, r⟩
  · obtain ⟨z, its, n, r, e⟩ := h.ok I.hok
    exact ⟨its, r, ⟨_, n, e, rfl, rfl, rfl⟩, z⟩
  · refine ⟨its.toList, r, ⟨o, n, I.kIn a o hk, hc, hd, by simpa using hs⟩, ?_⟩
    have e := r.length
    simp only [Array.length_toList] at e
    omega
theorem Inv.tuple (I : Inv X pins σ H s) (h : SqT X.K H a xs) : ∃ its : List Value, Vals xs its ∧ IsTup s.heap a its.toArray ∧ xs.length ≤ sizeLine := by
  rcases h with h | ⟨o, its, n, hk, hc, hs, hz, r⟩
  · obtain ⟨z, its, r, p⟩ := h.ok I.hok
    exact ⟨its, r, p, z⟩
  · refine ⟨its.toList, r, ⟨o, I.kIn a o hk, hc, n, by simpa using hs⟩, ?_⟩
    have e := r.length
    simp only [Array.length_toList] at e
    omega
theorem Inv.list_inj (I : Inv X pins σ H s) (h : SqL X.K H a xs) (h' : SqL X.K H a ys) : xs = ys := by
  obtain ⟨its, r, ⟨o, n, e, _, _, d⟩, _⟩ := I.list h
  obtain ⟨its', r', ⟨o', n', e', _, _, d'⟩, _⟩ := I.list h'
  rw [e] at e'; cases e'
  rw [d] at d'
  injection d' with d1 _
  have : its = its' := by simpa using congrArg Array.toList d1
  subst this
  exact r.inj r'
theorem Inv.tuple_inj (I : Inv X pins σ H s) (h : SqT X.K H a xs) (h' : SqT X.K H a ys) : xs = ys := by
  obtain ⟨its, r, ⟨o, e, _, n, d⟩, _⟩ := I.tuple h
  obtain ⟨its', r', ⟨o', e', _, n', d'⟩, _⟩ := I.tuple h'
  rw [e] at e'; cases e'
  rw [d] at d'
  injection d' with d1 _
  have : its = its' := by simpa using congrArg Array.toList d1
  subst this
  exact r.inj r'
end
abbrev Cx.wish (X : Cx) (E : Value → Shared → Prop) : Cx := { X with xe := E }
abbrev Cx.nox (X : Cx) : Cx := X.wish fun _ _ => False
theorem Cx.Ok.wish {X : Cx} (ok : X.Ok) (E : Value → Shared → Prop) : (X.wish E).Ok :=
  ⟨ok.mod, ok.kind, ok.glob, ok.blt, ok.above, ok.inj, ok.has, ok.cab, ok.hd, ok.frames, ok.stk, ok.exf, ok.bs, ok.bsz, ok.noex, ok.exfs, ok.funs, ok.frf⟩
theorem Cx.Ok.unwish {X : Cx} {E : Value → Shared → Prop} (ok : (X.wish E).Ok) : X.Ok :=
  ⟨ok.mod, ok.kind, ok.glob, ok.blt, ok.above, ok.inj, ok.has, ok.cab, ok.hd, ok.frames, ok.stk, ok.exf, ok.bs, ok.bsz, ok.noex, ok.exfs, ok.funs, ok.frf⟩
section
variable {X : Cx} {pins : List (Addr × Obj)} {σ : St} {H : Hp} {s : Shared} {E : Value → Shared → Prop}
theorem Inv.wish (I : Inv X pins σ H s) (E : Value → Shared → Prop) : Inv (X.wish E) pins σ H s := ⟨I.ok.wish E, I.os, I.bare, I.base, I.loc, I.cell, I.free, I.freeC, I.pin, I.hok, I.len⟩
theorem Inv.unwish (I : Inv (X.wish E) pins σ H s) : Inv X pins σ H s := ⟨I.ok.unwish, I.os, I.bare, I.base, I.loc, I.cell, I.free, I.freeC, I.pin, I.hok, I.len⟩
theorem SP.unwish {D : Ends} {f : Flow} {s' : Shared} (h : SP (X.wish E) pins D f s') : SP X pins D f s' := by
  cases f with
  | next => obtain ⟨σ', H', I, q⟩ := h; exact ⟨σ', H', I.unwish, q⟩
  | brk => obtain ⟨σ', H', I, q⟩ := h; exact ⟨σ', H', I.unwish, q⟩
  | cont => obtain ⟨σ', H', I, q⟩ := h; exact ⟨σ', H', I.unwish, q⟩
  | ret u => obtain ⟨v, σ', H', I, r, q⟩ := h; exact ⟨v, σ', H', I.unwish, r, q⟩
theorem PSs.nox {st : List Stmt} {t : TS} (h : PSs X.nox st t) : PSs X st t := fun pins s σ H D I hw =>
  wpAny_mono (h pins s σ H D (I.wish _) hw) (fun _ _ q => q.unwish) fun _ _ z => False.elim z
end
section
variable {X : Cx} {st : Stmt} {rest : List Stmt} {t u : TS} {e : Expr} {te : TE} {pos : Pos}
def tNext : TS := fun D σ H => D.nx σ H
def tSeq (t u : TS) : TS := fun D σ H => t { D with nx := u D } σ H
theorem pss_nil : PSs X [] tNext := fun _ _ σ H _ I h => wpAny_execs_nil ⟨σ, H, I, h⟩
theorem pss_cons (h1 : PS X st t) (h2 : PSs X rest u) : PSs X (st :: rest) (tSeq t u) := by
  intro pins s σ H D I h
  refine wpAny_execs_cons (thn (h1 pins s σ H { D with nx := u D } I h) fun f s1 q => ?_)
  cases f with
  | next =>
    obtain ⟨σ', H', I', q⟩ := q
    exact h2 pins s1 σ' H' D I' q
  | ret v => exact q
  | brk => exact q
  | cont => exact q
theorem pss_one (h1 : PS X st t) : PSs X [st] t := by
  intro pins s σ H D I h
  refine wpAny_execs_cons (thn (h1 pins s σ H D I h) fun f s1 q => ?_)
  cases f with
  | next => exact wpAny_execs_nil q
  | ret v => exact q
  | brk => exact q
  | cont => exact q
theorem Inv.quiet {pins : List (Addr × Obj)} {σ : St} {H : Hp} {s : Shared} (I : Inv X pins σ H s) : interactive X.env = false := by simp [interactive, I.ok.kind]
def tDrop (te : TE) : TS := fun D σ H => te σ H fun _ H1 => D.nx σ H1
theorem ps_expr (he : PE X e te) (hs : swapsWith e none pos.line X.env = pure false := by rfl) : PS X (.Expr e pos) (tDrop te) := by
  intro pins s σ H D I h
  exact wpAny_Expr_any (thn (he pins s σ H _ I h) fun v s1 ⟨x, H1, I1, r1, q1⟩ => ⟨σ, H1, I1, q1⟩) I.quiet hs
def tRet (te : TE) : TS := fun D σ H => te σ H D.rt
theorem ps_ret (he : PE X e te) : PS X (.Return (some e) pos) (tRet te) := by
  intro pins s σ H D I h
  exact wpAny_Return_some (thn (he pins s σ H _ I h) fun v s1 ⟨x, H1, I1, r1, q1⟩ => ⟨x, σ, H1, I1, r1, q1⟩)
def tIfS (c : TT) (t u : TS) : TS := fun D σ H => c σ H fun b H1 => if b = true then t D σ H1 else u D σ H1
theorem ps_if {c : Expr} {a b : List Stmt} {tc : TT} (hc : PT X c tc) (ha : PSs X a t) (hb : PSs X b u) : PS X (.If c a b pos) (tIfS tc t u) := by
  intro pins s σ H D I h
  refine wpAny_If (thn (hc pins s σ H _ I h) fun d s1 ⟨H1, I1, q1⟩ => ?_)
  cases d with
  | true => exact ha pins s1 σ H1 D I1 q1
  | false => exact hb pins s1 σ H1 D I1 q1
end
abbrev TG := V → St → Hp → (St → Hp → Prop) → Prop
abbrev TGs := List V → St → Hp → (St → Hp → Prop) → Prop
def PG (X : Cx) (target : Expr) (t : TG) : Prop :=
  ∀ (pins : List (Addr × Obj)) (s : Shared) (σ : St) (H : Hp) (v : V) (u : Value) (Q : St → Hp → Prop), Inv X pins σ H s → RelV v u → t v σ H Q →
    wpAny (model X.prog X.w) X.A (assign target X.env u) (fun _ s' => ∃ σ' H', Inv X pins σ' H' s' ∧ Q σ' H') X.xe s
def PGs (X : Cx) (ts : List Expr) (t : TGs) : Prop :=
  ∀ (pins : List (Addr × Obj)) (s : Shared) (σ : St) (H : Hp) (vs : List V) (us : List Value) (Q : St → Hp → Prop), Inv X pins σ H s → Vals vs us → t vs σ H Q →
    wpAny (model X.prog X.w) X.A (assignInOrder ((assignEach ts X.env).map (·.2)) us) (fun _ s' => ∃ σ' H', Inv X pins σ' H' s' ∧ Q σ' H') X.xe s
abbrev TSet := V → V → V → Hp → (Hp → Prop) → Prop
def PSet (X : Cx) (t : TSet) : Prop :=
  ∀ (pins : List (Addr × Obj)) (s : Shared) (σ : St) (H : Hp) (o i v : V) (ov iv u : Value) (Q : Hp → Prop), Inv X pins σ H s → RelV o ov → RelV i iv → RelV v u → t o i v H Q →
    wpAny (model X.prog X.w) X.A (setItem ov iv u) (fun _ s' => ∃ H', Inv X pins σ H' s' ∧ Q H') X.xe s
section
variable {X : Cx} {pos : Pos}
def gName (i : Nat) : TG := fun v σ H Q => Q (σ.set i (some v)) H
theorem pg_name {i : Nat} {x : Str} (hN : X.N.Nodup) (hi : X.N[i]? = some x) (hx : Loc X.env.scope x) (hf : X.fn x = true ∨ X.env.scope.names.lookup x = some .local := by first | exact .inl rfl | exact .inr rfl | assumption) : PG X (.Name x pos) (gName i) := by
  intro pins s σ H v u Q I r h
  exact wpAny_assign_Name (store_ok I hN hi hx r (fun s' I' => ⟨_, H, I', h⟩) hf)
def gNil : TGs := fun vs σ H Q => vs = [] ∧ Q σ H
def gCons (t : TG) (u : TGs) : TGs := fun vs σ H Q => ∃ v r, vs = v :: r ∧ t v σ H fun σ' H' => u r σ' H' Q
theorem pgs_nil : PGs X [] gNil := by
  intro pins s σ H vs us Q I r h
  obtain ⟨e, h⟩ := h
  subst e
  cases r
  exact assignInOrder_nil ⟨σ, H, I, h⟩
theorem pgs_cons {e : Expr} {es : List Expr} {t : TG} {u : TGs} (h1 : PG X e t) (h2 : PGs X es u)
    (hs : (assignEach (e :: es) X.env).map (·.2) = assign e X.env :: (assignEach es X.env).map (·.2) := by rfl) : PGs X (e :: es) (gCons t u) := by
  intro pins s σ H vs us Q I r h
  obtain ⟨v, vr, e1, h⟩ := h
  subst e1
  cases r with
  | cons r rr =>
    rw [hs]
    refine assignInOrder_cons (thn (h1 pins s σ H _ _ _ I r h) fun _ s1 ⟨σ1, H1, I1, q1⟩ => ?_)
    exact h2 pins s1 σ1 H1 _ _ Q I1 rr q1
def gTup (K : PySem.W.Frag) (n : Nat) (t : TGs) : TG := fun v σ H Q => ∃ a xs, v = .ref a ∧ SqT K H a xs ∧ xs.length = n ∧ t xs σ H Q
theorem pg_tup {es : List Expr} {k : Nat} {t : TGs} {n : Nat} (hc : X.calm = true) (h : PGs X es t)
    (hn : (assignEach es X.env).length = n := by rfl) (hst : (assignEach es X.env).findIdx? (·.1) = none := by rfl) : PG X (.Tuple es k pos) (gTup X.K n t) := by
  intro pins s σ H v u Q I r hw
  obtain ⟨a, xs, e1, hq, hl, hw⟩ := hw
  subst e1
  cases r
  obtain ⟨its, rv, ht, hz⟩ := I.tuple hq
  refine assign_Tuple_tuple (I.ok.hd hc) ht (by simp [hn, ← hl, rv.length]) hst fun h' hx => ?_
  have I1 : Inv X pins σ H { s with heap := h' } := I.kept (t' := s.toks) fun b o e => hx b o (Nat.ne_of_lt (Heap.lt_size e)) e
  exact h pins _ σ H xs _ Q I1 (by simpa using rv) hw
def gSub (to ti : TE) (t : TSet) : TG := fun v σ H Q => to σ H fun o H1 => ti σ H1 fun i H2 => t o i v H2 fun H3 => Q σ H3
theorem pg_sub {o i : Expr} {to ti : TE} {t : TSet} (ho : PE X o to) (hi : PE X i ti) (hs : PSet X t)
    (ha : ∀ v, assign (.Subscript o i pos) X.env v = (do
      let ov ← holding [v] (eval o X.env)
      let iv ← holding [v, ov] (eval i X.env)
      standAt pos
      holding [v, ov, iv] (setItem ov iv v)
      release [v, ov, iv] []) := by intro _; rfl) : PG X (.Subscript o i pos) (gSub to ti t) := by
  intro pins s σ H v u Q I r h
  rw [ha]
  refine wpAny_bind (wpAny_holding (thn (ho pins s σ H _ I h) fun ov s1 ⟨x, H1, I1, r1, q1⟩ => ?_))
  refine wpAny_bind (wpAny_holding (thn (hi pins s1 σ H1 _ I1 q1) fun iv s2 ⟨y, H2, I2, r2, q2⟩ => ?_))
  refine wpAny_bind (wpAny_standAt (wpAny_bind (wpAny_holding (thn (hs pins s2 σ H2 x y v ov iv u _ I2 r1 r2 r q2) fun _ s3 ⟨H3, I3, q3⟩ => ?_))))
  exact wpAny_release ⟨σ, H3, I3, q3⟩
def tAsg (te : TE) (g : TG) : TS := fun D σ H => te σ H fun x H1 => g x σ H1 D.nx
theorem ps_asg {tg e : Expr} {te : TE} {g : TG} (he : PE X e te) (hg : PG X tg g) (hs : swapsWithSole [tg] e pos.line X.env = pure false := by rfl) (hw : swappedStores [tg] e X.env = pure none := by rfl)
    (h1 : (assignEach [tg] X.env).map (·.2) = [assign tg X.env] := by rfl) : PS X (.Assign [tg] e pos) (tAsg te g) := by
  intro pins s σ H D I h
  refine wpAny_Assign_stores (thn (he pins s σ H _ I h) fun v s1 ⟨x, H1, I1, r1, q1⟩ => ?_) hs hw
  rw [h1]
  exact thn (hg pins s1 σ H1 x v _ I1 r1 q1) fun _ s2 q => q
theorem ps_set {i : Nat} {x : Str} {e : Expr} {te : TE} {pos' : Pos} (hN : X.N.Nodup) (hi : X.N[i]? = some x) (hx : Loc X.env.scope x) (he : PE X e te) (hs : swapsWith e (some (.Name x pos')) pos.line X.env = pure false := by rfl) (hf : X.fn x = true ∨ X.env.scope.names.lookup x = some .local := by first | exact .inl rfl | exact .inr rfl | assumption) :
    PS X (.Assign [.Name x pos'] e pos) (tAsg te (gName i)) := by
  intro pins s σ H D I h
  refine wpAny_Assign_Name (thn (he pins s σ H _ I h) fun v s1 ⟨y, H1, I1, r1, q1⟩ => ?_) hs
  exact store_ok I1 hN hi hx r1 (fun s2 I2 => ⟨_, H1, I2, q1⟩) hf
end
section
variable {X : Cx} {pos : Pos}
end
structure It where
  go : Nat → Hp → Prop
  yld : Nat → Hp → V → Hp → Prop
  stop : Nat → Hp → Prop
def FpOk (X : Cx) (pins : List (Addr × Obj)) (H : Hp) (b : Addr) : Prop :=
  H b = none ∧ b ≠ X.env.locals ∧ b ∉ X.fs ∧ (b ∈ X.ex ∨ X.s₀.heap.objs.size ≤ b) ∧ (∀ x c, X.env.cells.lookup x = some c → c ≠ b) ∧ ∀ p ∈ X.pn ++ pins, p.1 ≠ b
theorem Inv.fpOk {X : Cx} {pins : List (Addr × Obj)} {σ : St} {H H' : Hp} {s : Shared} {b : Addr} (I : Inv X pins σ H s) (hb : s.heap.objs.size ≤ b) (hn : H' b = none) : FpOk X pins H' b := by
  refine ⟨hn, Nat.ne_of_gt (Nat.lt_of_lt_of_le I.lt hb), I.nofs hb, .inr (Nat.le_trans I.sz hb), fun x c e z => ?_, fun p hp z => ?_⟩
  · obtain ⟨v, q⟩ := I.cell x c e
    exact absurd (Nat.lt_of_lt_of_le q.lt (by rw [z]; exact hb)) (Nat.lt_irrefl _)
  · exact absurd (Nat.lt_of_lt_of_le (Heap.lt_size (I.pin p hp).1) (by rw [z]; exact hb)) (Nat.lt_irrefl _)
structure Turn (P : Program) (w : World) (K : PySem.W.Frag) (tg : Expr) (J : It) (fp : List Addr) (it : Addr) (tn : Nat → Heap → Prop) : Prop where
  mem : it ∈ fp
  obj : ∀ i h, tn i h → ∀ b ∈ fp, ∃ o, h.get? b = some o ∧ ∀ v, o.data ≠ .cell v
  keep : ∀ i h h', tn i h → (∀ b ∈ fp, ∀ o, h.get? b = some o → h'.get? b = some o) → tn i h'
  item : ∀ (X : Cx), X.prog = P → X.w = w → X.K = K → X.calm = true → ∀ (i : Nat) (pins : List (Addr × Obj)) (s : Shared) (σ : St) (H : Hp) (E : Value → Shared → Prop), Inv X pins σ H s → (∀ b ∈ fp, FpOk X pins H b) → tn i s.heap → J.go i H →
    wpAny (model P w) X.A (pyNext (.ref it)) (fun r s1 => ∃ u, r = some u ∧
      wpAny (model P w) X.A (letOwnedTupleGo tg (.ref it) u) (fun _ s2 => ∃ x H', Inv X pins σ H' s2 ∧ RelV x u ∧ J.yld i H x H' ∧ tn (i + 1) s2.heap ∧ ∀ b ∈ fp, H' b = none) E s1) E s
  done : ∀ (X : Cx), X.prog = P → X.w = w → X.K = K → X.calm = true → ∀ (i : Nat) (pins : List (Addr × Obj)) (s : Shared) (σ : St) (H : Hp) (E : Value → Shared → Prop), Inv X pins σ H s → (∀ b ∈ fp, FpOk X pins H b) → tn i s.heap → J.stop i H →
    wpAny (model P w) X.A (pyNext (.ref it)) (fun r s1 => r = none ∧ Inv X pins σ H s1) E s
  self : ∀ (A : Around) (i : Nat) (s : Shared) (Q : Value → Shared → Prop) (E : Value → Shared → Prop), tn i s.heap → Q (.ref it) s → wpAny (model P w) A (pyIter (.ref it)) Q E s
abbrev TI := St → Hp → (It → Hp → Prop) → Prop
def PIE (X : Cx) (pins : List (Addr × Obj)) (σ : St) (tg : Expr) (R : It → Hp → Prop) (itv : Value) (s2 : Shared) : Prop :=
  ∃ (it : Addr) (fp : List Addr) (tn : Nat → Heap → Prop) (J : It) (H' : Hp), itv = .ref it ∧ Inv X pins σ H' s2 ∧ Turn X.prog X.w X.K tg J fp it tn ∧ tn 0 s2.heap ∧ (∀ b ∈ fp, FpOk X pins H' b) ∧ R J H'
def PI (X : Cx) (tg iter : Expr) (wi : TI) : Prop :=
  ∀ (pins : List (Addr × Obj)) (s : Shared) (σ : St) (H : Hp) (R : It → Hp → Prop), Inv X pins σ H s → wi σ H R →
    wpAny (model X.prog X.w) X.A (eval iter X.env) (fun v s1 => wpAny (model X.prog X.w) X.A (pyIter v) (PIE X pins σ tg R) X.xe s1) X.xe s
theorem go_of {M : Model} {A : Around} {E : Value → Shared → Prop} {s : Shared} {tg : Expr} {it : Addr} {u : Value} {o : Obj} {n : String} {vs : Array Value} {Q : Unit → Shared → Prop} (ho : s.heap.get? it = some o) (hc : o.cls = .type n) (hd : o.data = .fields vs)
    (hn : ["enumerate", "zip", "dict_itemiterator", "dict_reverseitemiterator", "odict_iterator", "itertools.zip_longest", "itertools.pairwise"].contains n = false) (hQ : Q () s) : wpAny M A (letOwnedTupleGo tg (.ref it) u) Q E s := by
  unfold letOwnedTupleGo
  cases tg <;> first
    | exact wpAny_pure hQ
    | (cases u <;> first
        | exact wpAny_pure hQ
        | (refine wpAny_bind (wpAny_load ho ?_)
           rw [hc, hd]
           show wpAny M A (if (["enumerate", "zip", "dict_itemiterator", "dict_reverseitemiterator", "odict_iterator", "itertools.zip_longest", "itertools.pairwise"].contains n && vs[0]? == some (rawInt _)) = true then _ else _) Q E s
           rw [if_neg (by intro h; rw [hn, Bool.false_and] at h; cases h)]
           exact wpAny_pure hQ))
def Itl (K : PySem.W.Frag) (a : Addr) : It :=
  ⟨fun i H => ∃ xs x, SqL K H a xs ∧ xs[i]? = some x, fun i H x H' => H' = H ∧ ∀ xs, SqL K H a xs → xs[i]? = some x, fun i H => ∃ xs, SqL K H a xs ∧ xs.length ≤ i⟩
def Itt (K : PySem.W.Frag) (a : Addr) : It :=
  ⟨fun i H => ∃ xs x, SqT K H a xs ∧ xs[i]? = some x, fun i H x H' => H' = H ∧ ∀ xs, SqT K H a xs → xs[i]? = some x, fun i H => ∃ xs, SqT K H a xs ∧ xs.length ≤ i⟩
def Itr (lo : Int) (n : Nat) : It := ⟨fun i _ => i < n, fun i H x H' => H' = H ∧ x = .int (lo + i), fun i _ => n ≤ i⟩
theorem turn_list {P : Program} {w : World} {K : PySem.W.Frag} {tg : Expr} (a it : Addr) : Turn P w K tg (Itl K a) [it] it (fun i h => h.IsListIter it a i) where
  mem := by simp
  obj := fun i h st b hb => by
    have e : b = it := by simpa using hb
    subst e
    obtain ⟨o, e, c, d⟩ := st
    exact ⟨o, e, fun v z => by rw [d] at z; cases z⟩
  keep := fun i h h' st k => st.at fun o e => k it (by simp) o e
  item := by
    intro X hP hw hK hc i pins s σ H E I hf st hg
    subst hP hw hK
    obtain ⟨xs, x, hq, hx⟩ := hg
    obtain ⟨its, rv, p, hz⟩ := I.list hq
    obtain ⟨u, hu, ru⟩ := rv.get hx
    obtain ⟨f0, f1, f2, f3, f4, f5⟩ := hf it (by simp)
    refine wpAny_pyNext_list_item st p.isList (x := u) (by simpa using hu) fun h' st' sb => ?_
    have I1 : Inv X pins σ H { s with heap := h' } := I.turned (t' := s.toks) (fun b o hb e => (sb.2 b hb).trans e) f0 f1 f3 f4 f5
    obtain ⟨o, e, c, d⟩ := id st'
    exact ⟨u, rfl, go_of (s := { s with heap := h' }) e c d (by decide) ⟨x, H, I1, ru, ⟨rfl, fun ys hy => by rw [I.list_inj hy hq]; exact hx⟩, st', fun b hb => (hf b hb).1⟩⟩
  done := by
    intro X hP hw hK hc i pins s σ H E I hf st hg
    subst hP hw hK
    obtain ⟨xs, hq, hx⟩ := hg
    obtain ⟨its, rv, p, hz⟩ := I.list hq
    obtain ⟨f0, f1, f2, f3, f4, f5⟩ := hf it (by simp)
    have hl := rv.length
    exact wpAny_pyNext_list_end (I.ok.hd hc) st p.isList (by simp; omega) fun h' eb => ⟨rfl, I.turned (t' := s.toks) (fun b o hb e => eb b o hb e) f0 f1 f3 f4 f5⟩
  self := fun _ _ _ _ _ st h => wpAny_pyIter_listiter st h
theorem turn_tuple {P : Program} {w : World} {K : PySem.W.Frag} {tg : Expr} (a it : Addr) : Turn P w K tg (Itt K a) [it] it (fun i h => h.IsTupleIter it a i) where
  mem := by simp
  obj := fun i h st b hb => by
    have e : b = it := by simpa using hb
    subst e
    obtain ⟨o, e, c, d⟩ := st
    exact ⟨o, e, fun v z => by rw [d] at z; cases z⟩
  keep := fun i h h' st k => st.at fun o e => k it (by simp) o e
  item := by
    intro X hP hw hK hc i pins s σ H E I hf st hg
    subst hP hw hK
    obtain ⟨xs, x, hq, hx⟩ := hg
    obtain ⟨its, rv, p, hz⟩ := I.tuple hq
    obtain ⟨u, hu, ru⟩ := rv.get hx
    obtain ⟨f0, f1, f2, f3, f4, f5⟩ := hf it (by simp)
    refine wpAny_pyNext_tuple_item st (show s.heap.IsTuple a its.toArray from p) (x := u) (by simpa using hu) fun h' st' sb => ?_
    have I1 : Inv X pins σ H { s with heap := h' } := I.turned (t' := s.toks) (fun b o hb e => (sb.2 b hb).trans e) f0 f1 f3 f4 f5
    obtain ⟨o, e, c, d⟩ := id st'
    exact ⟨u, rfl, go_of (s := { s with heap := h' }) e c d (by decide) ⟨x, H, I1, ru, ⟨rfl, fun ys hy => by rw [I.tuple_inj hy hq]; exact hx⟩, st', fun b hb => (hf b hb).1⟩⟩
  done := by
    intro X hP hw hK hc i pins s σ H E I hf st hg
    subst hP hw hK
    obtain ⟨xs, hq, hx⟩ := hg
    obtain ⟨its, rv, p, hz⟩ := I.tuple hq
    obtain ⟨f0, f1, f2, f3, f4, f5⟩ := hf it (by simp)
    have hl := rv.length
    exact wpAny_pyNext_tuple_end (I.ok.hd hc) st (show s.heap.IsTuple a its.toArray from p) (by simp; omega) fun h' eb => ⟨rfl, I.turned (t' := s.toks) (fun b o hb e => eb b o hb e) f0 f1 f3 f4 f5⟩
  self := fun _ _ _ _ _ st h => wpAny_pyIter_tupleiter st h
theorem turn_range {P : Program} {w : World} {K : PySem.W.Frag} {tg : Expr} (it : Addr) (lo : Int) (n : Nat) : Turn P w K tg (Itr lo n) [it] it (fun i h => IsRangeIter h it (lo + (i : Nat) * 1) ((n : Int) - (i : Nat)) 1) where
  mem := by simp
  obj := fun i h st b hb => by
    have e : b = it := by simpa using hb
    subst e
    exact ⟨_, st, fun v z => by
      have z' : Data.fields _ = Data.cell v := z
      cases z'⟩
  keep := fun i h h' st k => k it (by simp) _ st
  item := by
    intro X hP hw hK hc i pins s σ H E I hf st hg
    subst hP hw hK
    obtain ⟨f0, f1, f2, f3, f4, f5⟩ := hf it (by simp)
    have W := Walks.range (prog := X.prog) (w := X.w) (I.ok.hd hc) it lo 1 n
    refine W.item i s _ _ hg st fun v h' tk hv st' kk => ?_
    obtain ⟨t, rfl⟩ := hv
    have I1 : Inv X pins σ H { s with heap := h', toks := tk } := I.turned (fun b o hb e => kk b o (by simpa using hb) e) f0 f1 f3 f4 f5
    refine ⟨_, rfl, go_of (s := { s with heap := h', toks := tk }) (n := "range_iterator") st' rfl rfl (by decide) ⟨.int (lo + i), H, I1, ⟨t, ?_⟩, ⟨rfl, rfl⟩, st', fun b hb => (hf b hb).1⟩⟩
    rw [Int.mul_one]
  done := by
    intro X hP hw hK hc i pins s σ H E I hf st hg
    subst hP hw hK
    obtain ⟨f0, f1, f2, f3, f4, f5⟩ := hf it (by simp)
    exact wpAny_pyNext_range_end (I.ok.hd hc) st (by have : n ≤ i := hg; omega) fun h' eb => ⟨rfl, I.turned (t' := s.toks) (fun b o hb e => eb b o hb e) f0 f1 f3 f4 f5⟩
  self := fun _ _ _ _ _ st h => wpAny_pyIter_rangeiter st h
end L2
namespace L2
open PySem PySem.Spec PyProof.Rows
section
variable {X : Cx} {tg : Expr}
theorem range_it {pins : List (Addr × Obj)} {σ : St} {H : Hp} {s : Shared} {R : It → Hp → Prop} {E : Value → Shared → Prop} {lo hi : Int} {t u v : Tok} {tk : Nat} (I : Inv X pins σ H s) (h1 : -(2 ^ 62) ≤ lo) (h2 : lo < 2 ^ 62) (h3 : -(2 ^ 62) ≤ hi) (h4 : hi < 2 ^ 62)
    (q : R (Itr lo (hi - lo).toNat) H) : wpAny (model X.prog X.w) X.A (pyIter (.ref s.heap.objs.size)) (PIE X pins σ tg R) E { s with heap := s.heap.push { cls := .type "range", data := .fields #[.int lo t, .int hi u, .int 1 v] }, toks := tk } := by
  refine wpAny_pyIter_range (IsRange.new ..) (small_one h1 h2 h3 h4) ?_
  have I1 : Inv X pins σ H { s with heap := s.heap.push { cls := .type "range", data := .fields #[.int lo t, .int hi u, .int 1 v] }, toks := tk } := I.kept fun b o e => Heap.get?_push_of_some _ e
  refine ⟨(s.heap.push { cls := .type "range", data := .fields #[.int lo t, .int hi u, .int 1 v] }).objs.size, [(s.heap.push { cls := .type "range", data := .fields #[.int lo t, .int hi u, .int 1 v] }).objs.size], _, _, H, rfl,
    I1.kept (t' := tk) fun b o e => Heap.get?_push_of_some _ e, turn_range _ lo (hi - lo).toNat, ?_, fun b hb => ?_, q⟩
  · have e1 : lo + ((0 : Nat) : Int) * 1 = lo := by simp
    have e2 : (((hi - lo).toNat : Nat) : Int) - ((0 : Nat) : Int) = Builtin.Range.rangeSize lo hi 1 := by rw [rangeSize_one]; split <;> omega
    show IsRangeIter _ _ (lo + ((0 : Nat) : Int) * 1) ((((hi - lo).toNat : Nat) : Int) - ((0 : Nat) : Int)) 1
    rw [e1, e2]
    exact Heap.get?_push_size _ rfl
  · have e : b = (s.heap.push { cls := .type "range", data := .fields #[.int lo t, .int hi u, .int 1 v] }).objs.size := by simpa using hb
    subst e
    exact I1.fpOk (Nat.le_refl _) (I1.hok.fresh (Nat.le_refl _))
def iRng1 (ta : TA) : TI := fun σ H R => ta σ H fun vs H1 => ∃ j : Int, vs = [.int j] ∧ -(2 ^ 62) ≤ j ∧ j < 2 ^ 62 ∧ R (Itr 0 j.toNat) H1
theorem pi_range1 {a : Expr} {ta : TA} {p pos : Pos} (hg : Gl X "range") (hm : X.mg "range" = none) (ha : PA X [a] ta) (hs : starEach [a] X.env = [(false, eval a X.env)] := by rfl) : PI X tg (.Call (.Name "range" p) [a] [] pos) (iRng1 ta) := by
  intro pins s σ H R I h
  refine Call_ (ld_blt I hg hm boot_range (PyProof.Rows.callWith_type1 (thn (ha pos pins s σ H _ I h) fun us s1 ⟨vs, H1, I1, r1, q1⟩ => ?_) hs rfl))
  obtain ⟨j, e, q1, q2, q⟩ := q1
  subst e
  cases r1 with
  | cons r rr =>
    cases rr
    obtain ⟨t, rfl⟩ := r
    exact call_range_1 (range_it I1 (by omega) (by omega) q1 q2 (by simpa using q))
def pinsAt (fp : List Addr) (h : Heap) : List (Addr × Obj) := fp.filterMap fun b => (h.get? b).map fun o => (b, o)
theorem mem_pinsAt {fp : List Addr} {h : Heap} {b : Addr} {o : Obj} (hb : b ∈ fp) (e : h.get? b = some o) : (b, o) ∈ pinsAt fp h := List.mem_filterMap.mpr ⟨b, hb, by rw [e]; rfl⟩
theorem of_pinsAt {fp : List Addr} {h : Heap} {p : Addr × Obj} (hp : p ∈ pinsAt fp h) : p.1 ∈ fp ∧ h.get? p.1 = some p.2 := by
  obtain ⟨b, hb, e⟩ := List.mem_filterMap.mp hp
  cases q : h.get? b with
  | none => rw [q] at e; cases e
  | some o =>
    rw [q] at e
    have e' : (b, o) = p := Option.some.inj e
    subst e'
    exact ⟨hb, q⟩
theorem Inv.pinned {pins : List (Addr × Obj)} {σ : St} {H : Hp} {s : Shared} {fp : List Addr} (I : Inv X pins σ H s) (hf : ∀ b ∈ fp, FpOk X pins H b) (ho : ∀ b ∈ fp, ∃ o, s.heap.get? b = some o ∧ ∀ v, o.data ≠ .cell v) : Inv X (pins ++ pinsAt fp s.heap) σ H s :=
  I.pins_of fun p hp => (List.mem_append.mp hp).elim (fun z => I.pin p (List.mem_append_right _ z)) fun z => by
    obtain ⟨hb, e⟩ := of_pinsAt z
    obtain ⟨f0, f1, f2, _⟩ := hf p.1 hb
    obtain ⟨o, e', d⟩ := ho p.1 hb
    rw [e] at e'; cases e'
    exact ⟨e, f0, f1, f2, d⟩
theorem Inv.unpinned {pins pl : List (Addr × Obj)} {σ : St} {H : Hp} {s : Shared} (I : Inv X (pins ++ pl) σ H s) : Inv X pins σ H s := I.pins_of fun p hp => I.pin p (List.mem_append_right _ (List.mem_append_left _ hp))
end
end L2
namespace L2
open PySem PySem.Spec PyProof.Rows
abbrev R2 := V → V → Hp → VK → Prop
def OpR (X : Cx) (f : Value → Value → Sem Value) (r : R2) : Prop :=
  ∀ (pins : List (Addr × Obj)) (s : Shared) (σ : St) (H : Hp) (x y : V) (v u : Value) (Q : VK), Inv X pins σ H s → RelV x v → RelV y u → r x y H Q →
    wpAny (model X.prog X.w) X.A (f v u) (EP X pins σ Q) X.xe s
def CallR (X : Cx) (f : Value) (r : List V → Hp → VK → Prop) : Prop :=
  ∀ (pins : List (Addr × Obj)) (s : Shared) (σ : St) (H : Hp) (xs : List V) (us : List Value) (Q : VK), Inv X pins σ H s → Vals xs us → r xs H Q →
    wpAny (model X.prog X.w) X.A (call f us) (EP X pins σ Q) X.xe s
def TruR (X : Cx) (r : V → Hp → (Bool → Hp → Prop) → Prop) : Prop :=
  ∀ (pins : List (Addr × Obj)) (s : Shared) (σ : St) (H : Hp) (x : V) (v : Value) (Q : Bool → Hp → Prop), Inv X pins σ H s → RelV x v → r x H Q →
    wpAny (model X.prog X.w) X.A (truthy v) (TP X pins σ Q) X.xe s
def tOp (r : R2) (ta tb : TE) : TE := fun σ H Q => ta σ H fun x H1 => tb σ H1 fun y H2 => r x y H2 Q
def rI (C : Int → Int → Prop) (g : Int → Int → V) : R2 := fun x y H Q => ∃ i j, x = .int i ∧ y = .int j ∧ C i j ∧ Q (g i j) H
def rI0 (g : Int → Int → V) : R2 := fun x y H Q => ∃ i j, x = .int i ∧ y = .int j ∧ Q (g i j) H
section
variable {X : Cx} {a b c : Expr} {ta tb tc : TE} {pos : Pos}
theorem binT (ha : PE X a ta) (hb : PE X b tb) {pins : List (Addr × Obj)} {s : Shared} {σ : St} {H : Hp} {R : V → V → Hp → Prop} (I : Inv X pins σ H s)
    (h : ta σ H fun x H1 => tb σ H1 fun y H2 => R x y H2) {Q : Value → Shared → Prop} {f : Value → Value → Sem Value}
    (hf : ∀ v u s2 x y H2, Inv X pins σ H2 s2 → RelV x v → RelV y u → R x y H2 → wpAny (model X.prog X.w) X.A (f v u) Q X.xe s2) :
    wpAny (model X.prog X.w) X.A (eval a X.env) (fun v s₁ => wpAny (model X.prog X.w) X.A (eval b X.env) (fun u s₂ => wpAny (model X.prog X.w) X.A (f v u) Q X.xe s₂) X.xe s₁) X.xe s := by
  refine thn (ha pins s σ H _ I h) fun v s1 ⟨x, H1, I1, r1, q1⟩ => ?_
  refine thn (hb pins s1 σ H1 _ I1 q1) fun u s2 ⟨y, H2, I2, r2, q2⟩ => ?_
  exact hf v u s2 x y H2 I2 r1 r2 q2
theorem pe_op {op : Operator} {r : R2} (ho : OpR X (binaryOp op) r) (ha : PE X a ta) (hb : PE X b tb) : PE X (.BinOp a op b pos) (tOp r ta tb) := by
  intro pins s σ H Q I h
  exact wpAny_BinOp (binT ha hb I h fun v u s2 x y H2 I2 rx ry q => ho pins s2 σ H2 x y v u Q I2 rx ry q)
theorem opI {f : Value → Value → Sem Value} {C : Int → Int → Prop} {g : Int → Int → Int}
    (rule : ∀ (i j : Int) (t u : Tok) (s : Shared) (Q : Value → Shared → Prop) (E : Value → Shared → Prop), C i j → Q (.int (g i j) s.toks) { s with toks := s.toks + 1 } → wpAny (model X.prog X.w) X.A (f (.int i t) (.int j u)) Q E s) :
    OpR X f (rI C fun i j => .int (g i j)) := by
  intro pins s σ H x y v u Q I rx ry h
  obtain ⟨i, j, rfl, rfl, hc, q⟩ := h
  obtain ⟨t, rfl⟩ := rx
  obtain ⟨t', rfl⟩ := ry
  exact rule i j t t' s _ _ hc ⟨.int (g i j), H, I.tok _, ⟨_, rfl⟩, q⟩
theorem opI0 {f : Value → Value → Sem Value} {g : Int → Int → Int}
    (rule : ∀ (i j : Int) (t u : Tok) (s : Shared) (Q : Value → Shared → Prop) (E : Value → Shared → Prop), Q (.int (g i j) s.toks) { s with toks := s.toks + 1 } → wpAny (model X.prog X.w) X.A (f (.int i t) (.int j u)) Q E s) :
    OpR X f (rI0 fun i j => .int (g i j)) := by
  intro pins s σ H x y v u Q I rx ry h
  obtain ⟨i, j, rfl, rfl, q⟩ := h
  obtain ⟨t, rfl⟩ := rx
  obtain ⟨t', rfl⟩ := ry
  exact rule i j t t' s _ _ ⟨.int (g i j), H, I.tok _, ⟨_, rfl⟩, q⟩
theorem opB0 {f : Value → Value → Sem Value} {g : Int → Int → Bool}
    (rule : ∀ (i j : Int) (t u : Tok) (s : Shared) (Q : Value → Shared → Prop) (E : Value → Shared → Prop), Q (.bool (g i j)) s → wpAny (model X.prog X.w) X.A (f (.int i t) (.int j u)) Q E s) :
    OpR X f (rI0 fun i j => .bl (g i j)) := by
  intro pins s σ H x y v u Q I rx ry h
  obtain ⟨i, j, rfl, rfl, q⟩ := h
  obtain ⟨t, rfl⟩ := rx
  obtain ⟨t', rfl⟩ := ry
  exact rule i j t t' s _ _ ⟨.bl (g i j), H, I, rfl, q⟩
def CDiv (i j : Int) : Prop := 0 < j ∧ j < 1073741824
def CPow (i j : Int) : Prop := 0 ≤ j ∧ j ≤ 1000000 ∧ i.natAbs < 2 ^ 64
def CMul (i j : Int) : Prop := (-(2 ^ 64) < i ∧ i < 2 ^ 64) ∨ (-(2 ^ 64) < j ∧ j < 2 ^ 64)
theorem CMul.ok {i j : Int} (h : CMul i j) : IntMulOk i j := by
  rcases h with ⟨h1, h2⟩ | ⟨h1, h2⟩
  · exact .of_left (intBits_le_64 h1 h2)
  · exact .of_right (intBits_le_64 h1 h2)
theorem op_add : OpR X (binaryOp .Add) (rI0 fun i j => .int (i + j)) := opI0 fun _ _ _ _ _ _ _ q => add_int q
theorem op_sub : OpR X (binaryOp .Sub) (rI0 fun i j => .int (i - j)) := opI0 fun _ _ _ _ _ _ _ q => sub_int q
theorem op_mul : OpR X (binaryOp .Mult) (rI CMul fun i j => .int (i * j)) := opI fun _ _ _ _ _ _ _ hc q => mul_int q hc.ok
theorem op_fdiv : OpR X (binaryOp .FloorDiv) (rI CDiv fun i j => .int (i / j)) := opI fun i j _ _ _ _ _ hc q => by
  have h1 : (0 : Int) < j := hc.1
  have h2 : j < 1073741824 := hc.2
  exact floordiv_int (by omega) (by rw [Int.fdiv_eq_ediv_of_nonneg i (by omega)]; exact q) (.inl (PyProof.noPylong_small (by omega)))
theorem op_mod : OpR X (binaryOp .Mod) (rI (fun _ j => 0 < j) fun i j => .int (i % j)) := opI fun i j _ _ _ _ _ hc q => by
  have h1 : (0 : Int) < j := hc
  exact mod_int' (by omega) (by rw [Int.fmod_eq_emod_of_nonneg i (by omega)]; exact q)
end
def scal : V → V → Bool
  | .non, .non => true | .non, .int _ => true | .int _, .non => true | .non, .bl _ => true | .bl _, .non => true | .non, .str _ => true | .str _, .non => true
  | .int _, .int _ => true | .bl _, .bl _ => true | .str _, .str _ => true | .byt _, .byt _ => true
  | .int _, .str _ => true | .str _, .int _ => true | .bl _, .str _ => true | .str _, .bl _ => true
  | _, _ => false
def rEq : R2 := fun x y H Q => scal x y = true ∧ Q (.bl (decide (x = y))) H
def rNe : R2 := fun x y H Q => scal x y = true ∧ Q (.bl (!decide (x = y))) H
theorem dec_int {i j : Int} : decide (V.int i = V.int j) = (i == j) := by
  rw [Bool.eq_iff_iff]
  simp
theorem dec_bl {i j : Bool} : decide (V.bl i = V.bl j) = (i == j) := by
  rw [Bool.eq_iff_iff]
  simp
theorem dec_str {i j : Str} : decide (V.str i = V.str j) = (i == j) := by
  rw [Bool.eq_iff_iff]
  simp
theorem dec_byt {i j : Array UInt8} : decide (V.byt i = V.byt j) = (i.toList == j.toList) := by
  rw [Bool.eq_iff_iff]
  cases i
  cases j
  simp
section
variable {X : Cx} {a b c : Expr} {ta tb tc : TE} {pos : Pos}
theorem fin_bl {pins : List (Addr × Obj)} {σ : St} {H : Hp} {s : Shared} {Q : VK} {k k' : Bool} (I : Inv X pins σ H s) (q : Q (.bl k) H) (e : k = k') : EP X pins σ Q (.bool k') s := by
  subst e
  exact ⟨.bl k, H, I, rfl, q⟩
theorem op_eq : OpR X (compareOp .Eq) rEq := by
  intro pins s σ H x y v u Q I rx ry h
  obtain ⟨hs, q⟩ := h
  cases x with
  | non =>
    cases rx
    cases y with
    | non => cases ry; exact PySem.EqNone.eq_none_none (fin_bl I q (by simp))
    | bl j => cases ry; exact PySem.EqNone.eq_none_bool (fin_bl I q (by simp))
    | int j => obtain ⟨t', rfl⟩ := ry; exact PySem.EqNone.eq_none_int (fin_bl I q (by simp))
    | str j => obtain ⟨t', rfl⟩ := ry; exact PySem.EqNone.eq_none_str (fin_bl I q (by simp))
    | _ => exact absurd (show false = true from hs) Bool.false_ne_true
  | bl i =>
    cases rx
    cases y with
    | non => cases ry; exact PySem.EqNone.eq_bool_none (fin_bl I q (by simp))
    | bl j => cases ry; exact eq_bool (fin_bl I q dec_bl)
    | str j => obtain ⟨t', rfl⟩ := ry; exact PySem.EqMixed.eq_bool_str (fin_bl I q (by simp))
    | _ => exact absurd (show false = true from hs) Bool.false_ne_true
  | int i =>
    obtain ⟨t, rfl⟩ := rx
    cases y with
    | non => cases ry; exact PySem.EqNone.eq_int_none (fin_bl I q (by simp))
    | int j => obtain ⟨t', rfl⟩ := ry; exact eq_int (fin_bl I q dec_int)
    | str j => obtain ⟨t', rfl⟩ := ry; exact PySem.EqMixed.eq_int_str (fin_bl I q (by simp))
    | _ => exact absurd (show false = true from hs) Bool.false_ne_true
  | str i =>
    obtain ⟨t, rfl⟩ := rx
    cases y with
    | non => cases ry; exact PySem.EqNone.eq_str_none (fin_bl I q (by simp))
    | bl j => cases ry; exact PySem.EqMixed.eq_str_bool (fin_bl I q (by simp))
    | int j => obtain ⟨t', rfl⟩ := ry; exact PySem.EqMixed.eq_str_int (fin_bl I q (by simp))
    | str j => obtain ⟨t', rfl⟩ := ry; exact eq_str (fin_bl I q dec_str)
    | _ => exact absurd (show false = true from hs) Bool.false_ne_true
  | byt i =>
    obtain ⟨t, rfl⟩ := rx
    cases y with
    | byt j => obtain ⟨t', rfl⟩ := ry; exact PySem.W.eq_bytes (fin_bl I q dec_byt)
    | _ => exact absurd (show false = true from hs) Bool.false_ne_true
  | _ => cases y <;> exact absurd (show false = true from hs) Bool.false_ne_true
theorem op_ne : OpR X (compareOp .NotEq) rNe := by
  intro pins s σ H x y v u Q I rx ry h
  obtain ⟨hs, q⟩ := h
  cases x with
  | non =>
    cases rx
    cases y with
    | non => cases ry; exact PySem.EqNone.ne_none_none (fin_bl I q (by simp))
    | bl j => cases ry; exact PySem.EqNone.ne_none_bool (fin_bl I q (by simp))
    | int j => obtain ⟨t', rfl⟩ := ry; exact PySem.EqNone.ne_none_int (fin_bl I q (by simp))
    | str j => obtain ⟨t', rfl⟩ := ry; exact PySem.EqNone.ne_none_str (fin_bl I q (by simp))
    | _ => exact absurd (show false = true from hs) Bool.false_ne_true
  | bl i =>
    cases rx
    cases y with
    | non => cases ry; exact PySem.EqNone.ne_bool_none (fin_bl I q (by simp))
    | bl j => cases ry; exact ne_bool (fin_bl I q (congrArg not dec_bl))
    | str j => obtain ⟨t', rfl⟩ := ry; exact PySem.EqMixed.ne_bool_str (fin_bl I q (by simp))
    | _ => exact absurd (show false = true from hs) Bool.false_ne_true
  | int i =>
    obtain ⟨t, rfl⟩ := rx
    cases y with
    | non => cases ry; exact PySem.EqNone.ne_int_none (fin_bl I q (by simp))
    | int j => obtain ⟨t', rfl⟩ := ry; exact ne_int (fin_bl I q (congrArg not dec_int))
    | str j => obtain ⟨t', rfl⟩ := ry; exact PySem.EqMixed.ne_int_str (fin_bl I q (by simp))
    | _ => exact absurd (show false = true from hs) Bool.false_ne_true
  | str i =>
    obtain ⟨t, rfl⟩ := rx
    cases y with
    | non => cases ry; exact PySem.EqNone.ne_str_none (fin_bl I q (by simp))
    | bl j => cases ry; exact PySem.EqMixed.ne_str_bool (fin_bl I q (by simp))
    | int j => obtain ⟨t', rfl⟩ := ry; exact PySem.EqMixed.ne_str_int (fin_bl I q (by simp))
    | str j => obtain ⟨t', rfl⟩ := ry; exact ne_str (fin_bl I q (congrArg not dec_str))
    | _ => exact absurd (show false = true from hs) Bool.false_ne_true
  | byt i =>
    obtain ⟨t, rfl⟩ := rx
    cases y with
    | byt j => obtain ⟨t', rfl⟩ := ry; exact PySem.W.ne_bytes (fin_bl I q (congrArg not dec_byt))
    | _ => exact absurd (show false = true from hs) Bool.false_ne_true
  | _ => cases y <;> exact absurd (show false = true from hs) Bool.false_ne_true
theorem op_lt : OpR X (compareOp .Lt) (rI0 fun i j => .bl (decide (i < j))) := opB0 fun _ _ _ _ _ _ _ q => lt_int q
theorem op_gt : OpR X (compareOp .Gt) (rI0 fun i j => .bl (decide (j < i))) := opB0 fun _ _ _ _ _ _ _ q => gt_int q
theorem op_lt_str : OpR X (compareOp .Lt) (fun x y H Q => ∃ i j, x = .str i ∧ y = .str j ∧ Q (.bl (decide (i.cps.toList < j.cps.toList))) H) := by
  intro pins s σ H x y v u Q I rx ry h
  obtain ⟨i, j, rfl, rfl, q⟩ := h
  obtain ⟨t, rfl⟩ := rx
  obtain ⟨t', rfl⟩ := ry
  exact lt_str (fin_bl I q rfl)
theorem op_in_str : OpR X (compareOp .In) (fun x y H Q => ∃ i j, x = .str i ∧ y = .str j ∧ Q (.bl (!(Builtin.Str.occurrences j i 0 j.length 1).isEmpty)) H) := by
  intro pins s σ H x y v u Q I rx ry h
  obtain ⟨i, j, rfl, rfl, q⟩ := h
  obtain ⟨t, rfl⟩ := rx
  obtain ⟨t', rfl⟩ := ry
  exact in_str (fin_bl I q rfl)
theorem OpR.or {f : Value → Value → Sem Value} {r r' : R2} (h : OpR X f r) (h' : OpR X f r') : OpR X f (fun x y H Q => r x y H Q ∨ r' x y H Q) := by
  intro pins s σ H x y v u Q I rx ry q
  rcases q with q | q
  · exact h pins s σ H x y v u Q I rx ry q
  · exact h' pins s σ H x y v u Q I rx ry q
theorem nomark (b : Expr) {op : CmpOp} (h : op ≠ .In := by decide) (h2 : op ≠ .NotIn := by decide) : behindInMarks op b = false := by
  have e1 : (op == CmpOp.In) = false := by cases op <;> first | rfl | exact absurd rfl h
  have e2 : (op == CmpOp.NotIn) = false := by cases op <;> first | rfl | exact absurd rfl h2
  cases b <;> simp [behindInMarks, e1, e2]
theorem pe_cmpR {op : CmpOp} {r : R2} (ho : OpR X (compareOp op) r) (ha : PE X a ta) (hb : PE X b tb) (hm : behindInMarks op b = false) : PE X (.Compare a [op] [b] pos) (tOp r ta tb) := by
  intro pins s σ H Q I h
  exact wpAny_Compare1 (binT ha hb I h fun v u s2 x y H2 I2 rx ry q => ho pins s2 σ H2 x y v u Q I2 rx ry q) hm
def tTest (t : TE) : TT := fun σ H Q => t σ H fun x H' => ∃ k, x = .bl k ∧ Q k H'
theorem pt_cmpR {op : CmpOp} {r : R2} (ho : OpR X (compareOp op) r) (ha : PE X a ta) (hb : PE X b tb) (hm : behindInMarks op b = false) : PT X (.Compare a [op] [b] pos) (tTest (tOp r ta tb)) := by
  intro pins s σ H Q I h
  refine wpAny_isTrue_Compare1 (thn (ha pins s σ H _ I h) fun v s1 ⟨x, H1, I1, r1, q1⟩ => thn (hb pins s1 σ H1 _ I1 q1) fun u s2 ⟨y, H2, I2, r2, q2⟩ =>
    thn (ho pins s2 σ H2 x y v u _ I2 r1 r2 q2) fun c s3 ⟨z, H3, I3, r3, k, e, q3⟩ => ?_) hm
  subst e
  cases r3
  exact wpAny_truthy_bool ⟨H3, I3, q3⟩
def TruV (K : PySem.W.Frag) (x : V) (H : Hp) (k : Bool) : Prop :=
  match x with
  | .non => k = false
  | .bl b => k = b
  | .int i => k = (i != 0)
  | .str y => y.length ≤ sizeLine ∧ k = ((y.length : Int) != 0)
  | .byt y => y.size ≤ sizeLine ∧ k = ((y.size : Int) != 0)
  | .ref p => (∃ xs, SqL K H p xs ∧ k = !xs.isEmpty) ∨ (∃ xs, SqT K H p xs ∧ k = !xs.isEmpty) ∨ ∃ kvs, H p = some (.dK kvs) ∧ k = !kvs.isEmpty
  | _ => False
theorem isEmpty_kv {κ : Type} {kvs : List (κ × V)} {vs : List (κ × Value)} (r : KV kvs vs) : (!vs.isEmpty) = !kvs.isEmpty := by
  cases r <;> rfl
theorem isEmpty_of {xs : List V} {its : List Value} (r : Vals xs its) : (!its.toArray.isEmpty) = !xs.isEmpty := by
  cases r <;> simp
theorem line63 : (sizeLine : Nat) < 2 ^ 63 := by rw [sizeLine_eq]; decide
theorem tru_ok : TruR X (fun x H Q => ∃ k, TruV X.K x H k ∧ Q k H) := by
  intro pins s σ H x v Q I rx h
  obtain ⟨k, e, q⟩ := h
  have hl := line63
  have hs : sizeLine = 16777216 := sizeLine_eq
  cases x with
  | non =>
    cases rx
    have e' : k = false := e
    subst e'
    exact truthy_none ⟨H, I, q⟩
  | bl b =>
    cases rx
    have e' : k = b := e
    subst e'
    exact wpAny_truthy_bool ⟨H, I, q⟩
  | int i =>
    obtain ⟨t, rfl⟩ := rx
    have e' : k = (i != 0) := e
    subst e'
    exact PySem.P.truthy_int ⟨H, I, q⟩
  | str y =>
    obtain ⟨t, rfl⟩ := rx
    obtain ⟨hy, e'⟩ : y.length ≤ sizeLine ∧ k = ((y.length : Int) != 0) := e
    subst e'
    exact PySem.P.truthy_str (by omega) ⟨H, I.tok _, q⟩
  | byt y =>
    obtain ⟨t, rfl⟩ := rx
    obtain ⟨hy, e'⟩ : y.size ≤ sizeLine ∧ k = ((y.size : Int) != 0) := e
    subst e'
    exact PySem.W.truthy_bytes (by omega) ⟨H, I.tok _, q⟩
  | ref p =>
    cases rx
    have e' : (∃ xs, SqL X.K H p xs ∧ k = !xs.isEmpty) ∨ (∃ xs, SqT X.K H p xs ∧ k = !xs.isEmpty) ∨ ∃ kvs, H p = some (.dK kvs) ∧ k = !kvs.isEmpty := e
    rcases e' with ⟨xs, hx, e'⟩ | ⟨xs, hx, e'⟩ | ⟨kvs, hx, e'⟩
    · subst e'
      obtain ⟨its, r, pl, hz⟩ := I.list hx
      have hlen := r.length
      exact wpAny_truthy_list pl.isList (by simp only [List.size_toArray]; omega) ⟨H, I.tok _, by rw [isEmpty_of r]; exact q⟩
    · subst e'
      obtain ⟨its, r, pl, hz⟩ := I.tuple hx
      have hlen := r.length
      exact truthy_tuple pl (by simp only [List.size_toArray]; omega) ⟨H, I.tok _, by rw [isEmpty_of r]; exact q⟩
    · subst e'
      obtain ⟨hz, hS, vs, r, m⟩ : kvs.length ≤ sizeLine ∧ (p == sysModules) = false ∧ ∃ vs, KV kvs vs ∧ s.heap.DictOf (mixKind X.prog X.w) p vs := I.hok p _ hx
      have hlen : kvs.length = vs.length := Paired.length r
      exact wpAny_truthy_dict hS m (by omega) ⟨H, I.tok _, by rw [isEmpty_kv r]; exact q⟩
  | _ => exact (show False from e).elim
theorem pt_truth (ha : PE X a ta) (he : ∀ whole, isTrue a X.env whole = (do let v ← whole; standAt a.pos; holding [v] (truthy v))) :
    PT X a (fun σ H Q => ta σ H fun x H' => ∃ k, TruV X.K x H' k ∧ Q k H') := by
  intro pins s σ H Q I h
  exact isTrue_plain (thn (ha pins s σ H _ I h) fun v s1 ⟨x, H1, I1, r1, q1⟩ => tru_ok pins s1 σ H1 x v Q I1 r1 q1) (he _)
theorem op_add_str : OpR X (binaryOp .Add) (fun x y H Q => ∃ i j, x = .str i ∧ y = .str j ∧ i.length + j.length ≤ sizeLine ∧ Q (.str (i ++ j)) H) := by
  intro pins s σ H x y v u Q I rx ry h
  obtain ⟨i, j, rfl, rfl, hz, q⟩ := h
  obtain ⟨t, rfl⟩ := rx
  obtain ⟨t', rfl⟩ := ry
  exact add_str (fun t' tk => ⟨.str (i ++ j), H, I.tok _, ⟨_, rfl⟩, q⟩) hz
theorem vals1 {x : V} {us : List Value} (r : Vals [x] us) : ∃ u, us = [u] ∧ RelV x u := by
  cases r with
  | cons r1 r2 => cases r2; exact ⟨_, rfl, r1⟩
theorem vals2 {x y : V} {us : List Value} (r : Vals [x, y] us) : ∃ u w', us = [u, w'] ∧ RelV x u ∧ RelV y w' := by
  cases r with
  | cons r1 r2 =>
    cases r2 with
    | cons r3 r4 => cases r4; exact ⟨_, _, rfl, r1, r3⟩
theorem call_max2 (hc : X.calm = true) : CallR X (.builtin "max") (fun xs H Q => ∃ i j, xs = [.int i, .int j] ∧ Q (.int (if j > i then j else i)) H) := by
  intro pins s σ H xs us Q I r h
  obtain ⟨i, j, rfl, q⟩ := h
  obtain ⟨u, w', rfl, ⟨t, rfl⟩, ⟨t', rfl⟩⟩ := vals2 r
  refine max_two_ints (I.ok.hd hc) fun h' tk k => ⟨_, H, I.kept k, ?_, q⟩
  by_cases hj : j > i
  · rw [if_pos hj, if_pos hj]; exact ⟨_, rfl⟩
  · rw [if_neg hj, if_neg hj]; exact ⟨_, rfl⟩
theorem call_min2 (hc : X.calm = true) : CallR X (.builtin "min") (fun xs H Q => ∃ i j, xs = [.int i, .int j] ∧ Q (.int (if j < i then j else i)) H) := by
  intro pins s σ H xs us Q I r h
  obtain ⟨i, j, rfl, q⟩ := h
  obtain ⟨u, w', rfl, ⟨t, rfl⟩, ⟨t', rfl⟩⟩ := vals2 r
  refine min_two_ints (I.ok.hd hc) fun h' tk k => ⟨_, H, I.kept k, ?_, q⟩
  by_cases hj : j < i
  · rw [if_pos hj, if_pos hj]; exact ⟨_, rfl⟩
  · rw [if_neg hj, if_neg hj]; exact ⟨_, rfl⟩
theorem call_int1 : CallR X (.type "int") (fun xs H Q => (∃ i, xs = [.int i] ∧ Q (.int i) H) ∨ ∃ k, xs = [.bl k] ∧ Q (.int (if k then 1 else 0)) H) := by
  intro pins s σ H xs us Q I r h
  rcases h with ⟨i, rfl, q⟩ | ⟨k, rfl, q⟩
  · obtain ⟨u, rfl, t, rfl⟩ := vals1 r
    exact call_int_int ⟨.int i, H, I, ⟨_, rfl⟩, q⟩
  · obtain ⟨u, rfl, r1⟩ := vals1 r
    cases r1
    exact call_int_bool ⟨.int (if k then 1 else 0), H, I.tok _, ⟨_, rfl⟩, q⟩
def LenV (K : PySem.W.Frag) (x : V) (H : Hp) (n : Nat) : Prop :=
  match x with
  | .str y => y.length ≤ sizeLine ∧ n = y.length
  | .byt y => y.size ≤ sizeLine ∧ n = y.size
  | .ref p => (∃ xs, SqL K H p xs ∧ n = xs.length) ∨ ∃ xs, SqT K H p xs ∧ n = xs.length
  | _ => False
theorem call_len : CallR X (.builtin "len") (fun xs H Q => ∃ x n, xs = [x] ∧ LenV X.K x H n ∧ Q (.int n) H) := by
  intro pins s σ H xs us Q I r h
  obtain ⟨x, n, rfl, e, q⟩ := h
  obtain ⟨u, rfl, rx⟩ := vals1 r
  have hl := line63
  have hs : sizeLine = 16777216 := sizeLine_eq
  cases x with
  | str y =>
    obtain ⟨t, rfl⟩ := rx
    obtain ⟨hy, e'⟩ : y.length ≤ sizeLine ∧ n = y.length := e
    subst e'
    exact len_str (by omega) ⟨.int _, H, I.tok _, ⟨_, rfl⟩, q⟩
  | byt y =>
    obtain ⟨t, rfl⟩ := rx
    obtain ⟨hy, e'⟩ : y.size ≤ sizeLine ∧ n = y.size := e
    subst e'
    exact PySem.W.len_bytes (by omega) ⟨.int _, H, I.tok _, ⟨_, rfl⟩, q⟩
  | ref p =>
    cases rx
    have e' : (∃ xs, SqL X.K H p xs ∧ n = xs.length) ∨ ∃ xs, SqT X.K H p xs ∧ n = xs.length := e
    rcases e' with ⟨xs, hx, e'⟩ | ⟨xs, hx, e'⟩
    · subst e'
      obtain ⟨its, r', pl, hz⟩ := I.list hx
      have hlen := r'.length
      exact Calls.call_len_list pl.isList (by simp only [List.size_toArray]; omega) ⟨.int xs.length, H, I.tok _, ⟨_, by simp only [List.size_toArray]; rw [hlen]⟩, q⟩
    · subst e'
      obtain ⟨its, r', pl, hz⟩ := I.tuple hx
      have hlen := r'.length
      exact len_tuple pl (by simp only [List.size_toArray]; omega) ⟨.int xs.length, H, I.tok _, ⟨_, by simp only [List.size_toArray]; rw [hlen]⟩, q⟩
  | _ => exact (show False from e).elim
end
end L2
namespace L2
open PySem PySem.Spec PyProof.Rows
structure ObjM (h : Heap) (x dx C : Addr) (mA : Str → Option Value) : Prop where
  obj : h.get? x = some (PySem.W.instObj C dx)
  ns : h.Ns1 dx mA
  ne : dx ≠ x
section
variable {prog : Program} {w : World} {A : Around} {E : Value → Shared → Prop} {s : Shared} {K : PySem.W.Frag} {x dx C f : Addr} {mA : Str → Option Value} {name : Str} {v : Value}
end
theorem RelO.some_of {v : V} {o : Option Value} (r : RelO (some v) o) : ∃ u, o = some u ∧ RelV v u := by
  cases o with
  | none => exact (show False from r).elim
  | some u => exact ⟨u, rfl, r⟩
section
variable {P : Program} {w : World} {H H' : Hp} {h h' : Heap} {a C dx : Addr} {fs fs' : List (Str × V)}
end
structure Cls (K : PySem.W.Frag) (C : Addr) : Prop where
  pg : PySem.W.plainGet K C Str.empty = true
  hd : PySem.W.hasDictIn K C = true
  po : PySem.W.plainOver K C = true
  sa : PySem.W.findIn K (.ref C) "__setattr__" = some (some (.builtin "object.__setattr__"))
structure Con (K : PySem.W.Frag) (C : Addr) (f : Str) (v : V) (u : Value) : Prop where
  at_ : PySem.W.findIn K (.ref C) f = some (some u)
  rel : RelV v u
  get : PySem.W.specialIn K u "__get__" = some none
  cp : PySem.W.copiedNames.contains f = false
structure Meth (K : PySem.W.Frag) (C : Addr) (m : Str) (f : Addr) : Prop where
  at_ : PySem.W.findIn K (.ref C) m = some (some (.ref f))
  fn : PySem.W.isFn K (.ref f) = true
  kp : PySem.W.keepIn K (.ref f) = true
section
variable {X : Cx} {pins : List (Addr × Obj)} {σ : St} {H : Hp} {s : Shared} {a C dx : Addr} {fs : List (Str × V)} {f : Str} {v : V} {A : Around} {E : Value → Shared → Prop}
end
section
variable {X : Cx} {o e value : Expr} {f : Str} {pos pos' tpos : Pos} {ta tv : TE}
end
section
variable {X : Cx} {pins : List (Addr × Obj)} {σ : St} {H : Hp} {s : Shared} {A : Around} {E : Value → Shared → Prop} {Q : Value → Shared → Prop} {c : Value} {b : Bool}
inductive TyOf (K : PySem.W.Frag) (H : Hp) : V → Value → Prop where
  | non : TyOf K H .non (.type "NoneType")
  | bl (x : Bool) : TyOf K H (.bl x) (.type "bool")
  | int (i : Int) : TyOf K H (.int i) (.type "int")
  | str (x : Str) : TyOf K H (.str x) (.type "str")
  | flt (x : UInt64) : TyOf K H (.flt x) (.type "float")
  | lst {a : Addr} {xs : List V} (e : H a = some (.lst xs)) : TyOf K H (.ref a) (.type "list")
  | frz {a : Addr} {o : Obj} {xs : List V} (e : H a = some (.frz o (.lst xs))) : TyOf K H (.ref a) (.type "list")
  | tup {a : Addr} {xs : List V} (e : H a = some (.tup xs)) : TyOf K H (.ref a) (.type "tuple")
  | dK {a : Addr} {kvs : List (Key × V)} (e : H a = some (.dK kvs)) : TyOf K H (.ref a) (.type "dict")
  | dT {a : Addr} {kvs : List (List Key × V)} (e : H a = some (.dT kvs)) : TyOf K H (.ref a) (.type "dict")
  | ins {a C dx : Addr} {fs : List (Str × V)} (e : H a = some (.ins C dx fs)) (cl : Cls K C) (ha : PySem.W.findIn K (.ref C) "__class__" = some (some (.builtin "object.__class__")))
      (hn : PySem.W.specialIn K (.builtin "object.__class__") "__get__" = some (some (.builtin "getset_descriptor.__get__"))) (htk : PySem.W.takesIn K (.builtin "object.__class__") = some true)
      (hm : PySem.W.mroIn K C (.type "object") = some true) : TyOf K H (.ref a) (.ref C)
end
end L2
namespace L2
open PySem PySem.Spec PyProof.Rows
structure Room (k : Nat) (A : Around) : Prop where
  hd : A.handled = none
  dp : A.depth + 3 * k + 5 < recursionLimit
  un : A.units + 16 * k + 200 < cLine
theorem Room.mono {j k : Nat} {A : Around} (r : Room k A) (h : j ≤ k) : Room j A := ⟨r.hd, by have := r.dp; omega, by have := r.un; omega⟩
theorem Room.deeper {k : Nat} {A : Around} (r : Room (k + 1) A) (env : Env) : Room k (A.deeper env) :=
  ⟨r.hd, by have := r.dp; show A.depth + 1 + 3 * k + 5 < _; omega, by have := r.un; show A.units + 3 + 16 * k + 200 < _; omega⟩
theorem Room.depth {k : Nat} {A : Around} (r : Room k A) : A.depth < recursionLimit := by have := r.dp; omega
theorem Room.units {k : Nat} {A : Around} (r : Room k A) : A.units + 64 < cLine := by have := r.un; omega
def tNil : TA := fun _ H Q => Q [] H
def tCons (ta : TE) (tr : TA) : TA := fun σ H Q => ta σ H fun x H1 => tr σ H1 fun xs H2 => Q (x :: xs) H2
section
variable {X : Cx} {e : Expr} {es : List Expr} {te : TE} {t : TA} {pos : Pos}
theorem pa_nil : PA X [] tNil := fun _ _ _ _ H Q I h => Calls.spliced_nil ⟨[], H, I, .nil, h⟩
theorem pa_cons (ha : PE X e te) (hr : PA X es t) (hs : starEach (e :: es) X.env = (false, eval e X.env) :: starEach es X.env := by rfl) : PA X (e :: es) (tCons te t) := by
  intro pos pins s σ H Q I h
  rw [hs]
  show wpAny _ _ (spliced ((false, eval e X.env) :: backTo pos (starEach es X.env))) _ _ s
  refine Calls.spliced_cons (thn (ha pins s σ H _ I h) fun u s1 ⟨x, H1, I1, r1, q1⟩ => ?_)
  exact thn (hr pos pins s1 σ H1 _ I1 q1) fun us s2 ⟨xs, H2, I2, r2, q2⟩ => ⟨x :: xs, H2, I2, .cons r1 r2, q2⟩
def tTup (t : TA) : TE := fun σ H Q => t σ H fun xs H1 => xs.length ≤ sizeLine ∧ ∀ p, H1 p = none → Q (.ref p) (upd H1 p (.tup xs))
def tLst (t : TA) : TE := fun σ H Q => t σ H fun xs H1 => xs.length ≤ sizeLine ∧ ∀ p, H1 p = none → Q (.ref p) (upd H1 p (.lst xs))
theorem pe_tup {x1} (h : PA X es t) : PE X (.Tuple es x1 pos) (tTup t) := by
  intro pins s σ H Q I hq
  refine wpAny_Tuple_spliced (thn (h pos pins s σ H _ I hq) fun us s1 ⟨xs, H1, I1, r, z, q⟩ => ⟨by rw [← r.length]; exact z, ?_⟩)
  have hf : H1 s1.heap.objs.size = none := I1.hok.fresh (Nat.le_refl _)
  refine ⟨.ref s1.heap.objs.size, upd H1 s1.heap.objs.size (.tup xs), I1.laid (t' := s1.toks) (fun b u e => Heap.get?_push_of_some _ e) (Nat.le_refl _) ?_, rfl, q _ hf⟩
  exact ⟨z, us, r, ⟨_, Heap.get?_push_size _ rfl, rfl, _, rfl⟩⟩
theorem pe_lst (h : PA X es t) : PE X (.List es pos) (tLst t) := by
  intro pins s σ H Q I hq
  refine wpAny_List_spliced (thn (h pos pins s σ H _ I hq) fun us s1 ⟨xs, H1, I1, r, z, q⟩ => ⟨by rw [← r.length]; exact z, ?_⟩)
  have hf : H1 s1.heap.objs.size = none := I1.hok.fresh (Nat.le_refl _)
  refine ⟨.ref s1.heap.objs.size, upd H1 s1.heap.objs.size (.lst xs), I1.laid (t' := s1.toks) (fun b u e => Heap.get?_push_of_some _ e) (Nat.le_refl _) ?_, rfl, q _ hf⟩
  exact ⟨z, us, 0, r, Heap.get?_push_size _ rfl⟩
end
abbrev Sp := List V → Hp → VK → XK → Prop
abbrev CXT := List Env → Hp → Shared → XK → Value → Shared → Prop
structure Env0 (P : Program) (w : World) (K : PySem.W.Frag) (mg : Str → Option Value) (base : Heap) (A : Around) (outer : List Env) (s : Shared) (H : Hp) : Prop where
  frames : A.frames = some outer
  mod : Mod K mg base
  bs : ∀ b o, base.get? b = some o → s.heap.get? b = some o ∧ H b = none
  bsz : base.objs.size ≤ s.heap.objs.size
  funs : s.heap.FunFrames base outer
  frf : ∀ b ∈ frs outer, H b = none
  hok : HOk P w H s.heap
  bare : AllBare s.gens
def CE (outer : List Env) (P : Program) (w : World) (H : Hp) (s : Shared) (Q : VK) (u : Value) (s' : Shared) : Prop :=
  ∃ v H', s'.os = s.os ∧ AllBare s'.gens ∧ Un (frs outer) [] H H' s.heap s'.heap ∧ HOk P w H' s'.heap ∧ RelV v u ∧ Q v H'
def CR (CX : CXT) (outer : List Env) (P : Program) (w : World) (H : Hp) (s : Shared) (Q : VK) (E : XK) (r : Result) (s' : Shared) : Prop :=
  match r with
  | .ok (.ret u) => CE outer P w H s Q u s'
  | .ok _ => False
  | .error e => CX outer H s E e s'
structure FnOk (P : Program) (w : World) (K : PySem.W.Frag) (mg : Str → Option Value) (base : Heap) (CX : CXT) (k : Nat) (f : Addr) (fd : FuncData) (ps : List Str) (sp : Sp) : Prop where
  len : ∀ vs H Q E, sp vs H Q E → vs.length = ps.length
  run : ∀ (A : Around) (outer : List Env) (s : Shared) (H : Hp) (args : Args) (us : List Value) (vs : List V) (Q : VK) (E : XK), Room k A → Env0 P w K mg base A outer s H → BindsTo s fd args (ps.zip us) → Vals vs us → sp vs H Q E →
    codeAny (model P w) A (.call (.ref f) args) (CR CX outer P w H s Q E) s
section
variable {X : Cx} {pins : List (Addr × Obj)} {σ : St} {H : Hp} {s s' : Shared}
theorem Inv.env0 (I : Inv X pins σ H s) : Env0 X.prog X.w X.K X.mg X.base X.A X.stack s H :=
  ⟨I.ok.frames, I.ok.mod, I.bs, Nat.le_trans I.ok.bsz I.sz, I.stack, I.stkFree, I.hok, I.bare⟩
theorem Inv.after {Q : VK} {u : Value} (I : Inv X pins σ H s) (h : CE X.stack X.prog X.w H s Q u s') : EP X pins σ Q u s' := by
  obtain ⟨v, H', os, bare, un, hok, r, q⟩ := h
  obtain ⟨hh, g, d, t, os'⟩ := s'
  obtain rfl : os' = s.os := os
  exact ⟨v, H', I.call (h' := hh) (g' := g) (d' := d) (t' := t) (ch := []) un hok bare (fun b z => absurd z (by simp)), r, q⟩
end
def tCall (sp : Sp) (dvs : List V) (E : XK) (t : TA) : TE := fun σ H Q => t σ H fun vs H1 => sp (vs ++ dvs) H1 Q E
def Binds (K : PySem.W.Frag) (fd : FuncData) (ps : List Str) (ds : List Value) : Prop :=
  ∀ (s : Shared) (us : List Value), K.In s.heap → (us ++ ds).length = ps.length → BindsTo s fd ⟨us, []⟩ (ps.zip (us ++ ds))
theorem Binds.all {K : PySem.W.Frag} {fd : FuncData} {ps : List Str} (h : ∀ us : List Value, us.length = ps.length → bindArgs fd ⟨us, []⟩ = pure (ps.zip us)) : Binds K fd ps [] := fun s us _ hl => by
  rw [List.append_nil] at hl ⊢
  exact .of_eq (h us hl)
def Passes (CX : CXT) (X : Cx) (E : XK) : Prop := ∀ (pins : List (Addr × Obj)) (σ : St) (H : Hp) (s : Shared) (e : Value) (s' : Shared), Inv X pins σ H s → CX X.stack H s E e s' → X.xe e s'
section
variable {X : Cx} {CX : CXT} {k : Nat} {f C : Addr} {fd : FuncData} {ps : List Str} {sp : Sp} {dvs : List V} {ds : List Value} {E : XK} {x m : Str} {p pos apos : Pos} {e o : Expr} {es : List Expr} {ta : TE} {t : TA}
theorem run_fn {pins : List (Addr × Obj)} {σ : St} {H : Hp} {s : Shared} {Q : VK} {us : List Value} {vs : List V} (F : FnOk X.prog X.w X.K X.mg X.base CX k f fd ps sp) (hr : Room k X.A) (hb : Binds X.K fd ps ds) (hd : Vals dvs ds) (hx : Passes CX X E)
    (I : Inv X pins σ H s) (r : Vals vs us) (h : sp (vs ++ dvs) H Q E) : wpAny (model X.prog X.w) X.A (call (.ref f) us) (EP X pins σ Q) X.xe s := by
  have r2 : Vals (vs ++ dvs) (us ++ ds) := r.append hd
  have hl : (us ++ ds).length = ps.length := by rw [← r2.length]; exact F.len _ _ _ _ h
  refine wpAny_call (codeAny_mono (F.run X.A X.stack s H ⟨us, []⟩ (us ++ ds) (vs ++ dvs) Q E hr I.env0 (hb s us I.kIn hl) r2 h) fun r s' hq => ?_)
  cases r with
  | error e => exact hx pins σ H s e s' I hq
  | ok fl =>
    cases fl with
    | ret u => exact I.after hq
    | next => exact False.elim hq
    | brk => exact False.elim hq
    | cont => exact False.elim hq
theorem pe_call (F : FnOk X.prog X.w X.K X.mg X.base CX k f fd ps sp) (hr : Room k X.A) (hg : Gl X x) (hm : X.mg x = some (.ref f)) (hk : PySem.W.keepIn X.K (.ref f) = true) (hb : Binds X.K fd ps ds) (hd : Vals dvs ds) (hx : Passes CX X E)
    (ha : PA X (e :: es) t) (hdb : (x == ("__debug__" : Str)) = false := by decide) (he : starEach (e :: es) X.env = (false, eval e X.env) :: starEach es X.env := by rfl) (hpl : (backTo pos (starEach es X.env)).any (·.1) = false := by rfl) :
    PE X (.Call (.Name x p) (e :: es) [] pos) (tCall sp dvs E t) := by
  intro pins s σ H Q I h
  refine wpAny_Call_Name_kw (ld_glob I hg hm ?_ hdb)
  refine PySem.W.callWith_K (h₀ := X.base) I.ok.mod.kin hk (thn (ha pos pins s σ H _ I h) fun us s1 ⟨vs, H1, I1, r, q⟩ => ⟨I1.kIn, ?_⟩) he hpl
  exact run_fn F hr hb hd hx I1 r q
structure Mk (K : PySem.W.Frag) (C f : Addr) : Prop where
  makes : PySem.W.makesIn K C = true
  init : PySem.W.findIn K (.ref C) "__init__" = some (some (.ref f))
  fn : PySem.W.isFn K (.ref f) = true
  kp : PySem.W.keepIn K (.ref C) = true
end
section
variable {X : Cx} {CX : CXT} {k : Nat} {f C : Addr} {fd : FuncData} {ps ks : List Str} {sp : Sp} {E : XK} {x m : Str} {p pos apos kpos : Pos} {e o : Expr} {es : List Expr} {kws : List Keyword} {te ta : TE} {t tk : TA} {nm : Option Str}
structure KBinds (K : PySem.W.Frag) (fd : FuncData) (ps ks : List Str) (g : List Value → List Value → List Value) (gV : List V → List V → List V) : Prop where
  to : ∀ (s : Shared) (us ws : List Value), K.In s.heap → (g us ws).length = ps.length → BindsTo s fd ⟨us, ks.zip ws⟩ (ps.zip (g us ws))
  rel : ∀ {vs : List V} {us : List Value} {zs : List V} {ws : List Value}, Vals vs us → Vals zs ws → Vals (gV vs zs) (g us ws)
variable {g : List Value → List Value → List Value} {gV : List V → List V → List V}
end
structure FnScope (N P : List Str) (sc : Scope) : Prop where
  kind : sc.kind = .function
  co : sc.isCoroutine = false
  gen : sc.isGenerator = false
  nd : N.Nodup
  pre : N.take P.length = P
  par : ∀ x ∈ P, sc.names.lookup x = some .local ∨ sc.names.lookup x = some .cell
  nofree : ∀ y ∈ sc.names, y.2 ≠ .free
theorem bindL_out {kindOf : Str → Option NameKind} {x : Str} : ∀ {binds : List (Str × Value)} {m : Str → Option Value}, (∀ v, (x, v) ∉ binds) → bindL kindOf binds m x = m x
  | [], _, _ => rfl
  | (n, v) :: r, m, h => by
    unfold bindL
    rw [bindL_out fun w hw => h w (List.mem_cons_of_mem _ hw)]
    split
    · have : x ≠ n := by rintro rfl; exact h v List.mem_cons_self
      simp [this]
    · rfl
theorem bindC_out {kindOf : Str → Option NameKind} {x : Str} : ∀ {binds : List (Str × Value)} {m : Str → Option Value}, (∀ v, (x, v) ∉ binds) → bindC kindOf binds m x = m x
  | [], _, _ => rfl
  | (n, v) :: r, m, h => by
    unfold bindC
    rw [bindC_out fun w hw => h w (List.mem_cons_of_mem _ hw)]
    split
    · rfl
    · have : x ≠ n := by rintro rfl; exact h v List.mem_cons_self
      simp [this]
theorem bindL_get {kindOf : Str → Option NameKind} {x : Str} {v : Value} : ∀ {P : List Str} {vs : List Value} {i : Nat} {m : Str → Option Value}, P.Nodup → P[i]? = some x → vs[i]? = some v → kindOf x = some .local →
    bindL kindOf (P.zip vs) m x = some v
  | [], _, _, _, _, h, _, _ => by simp at h
  | _ :: _, [], _, _, _, _, h, _ => by simp at h
  | p :: P, w :: vs, 0, m, nd, h1, h2, hk => by
    simp at h1 h2; subst h1; subst h2
    show bindL kindOf ((p, w) :: P.zip vs) m p = _
    unfold bindL
    rw [bindL_out fun v hv => (List.nodup_cons.mp nd).1 (List.of_mem_zip hv).1, if_pos hk]
    simp
  | p :: P, w :: vs, i + 1, m, nd, h1, h2, hk => by
    show bindL kindOf ((p, w) :: P.zip vs) m x = _
    unfold bindL
    exact bindL_get (i := i) (List.nodup_cons.mp nd).2 (by simpa using h1) (by simpa using h2) hk
theorem bindC_get {kindOf : Str → Option NameKind} {x : Str} {v : Value} : ∀ {P : List Str} {vs : List Value} {i : Nat} {m : Str → Option Value}, P.Nodup → P[i]? = some x → vs[i]? = some v → kindOf x ≠ some .local →
    bindC kindOf (P.zip vs) m x = some v
  | [], _, _, _, _, h, _, _ => by simp at h
  | _ :: _, [], _, _, _, _, h, _ => by simp at h
  | p :: P, w :: vs, 0, m, nd, h1, h2, hk => by
    simp at h1 h2; subst h1; subst h2
    show bindC kindOf ((p, w) :: P.zip vs) m p = _
    unfold bindC
    rw [bindC_out fun v hv => (List.nodup_cons.mp nd).1 (List.of_mem_zip hv).1, if_neg hk]
    simp
  | p :: P, w :: vs, i + 1, m, nd, h1, h2, hk => by
    show bindC kindOf ((p, w) :: P.zip vs) m x = _
    unfold bindC
    exact bindC_get (i := i) (List.nodup_cons.mp nd).2 (by simpa using h1) (by simpa using h2) hk
def start (N : List Str) (vs : List V) : St := vs.map some ++ List.replicate (N.length - vs.length) none
def cxOf (CX : CXT) (P : Program) (w : World) (K : PySem.W.Frag) (mg : Str → Option Value) (base : Heap) (N : List Str) (qual : Str) (scope : Scope) (f : Addr) (cd : Value) (A : Around) (outer : List Env) (s : Shared) (H : Hp) (E : XK) : Cx where
  prog := P
  w := w
  K := K
  mg := mg
  base := base
  A := A.deeper (envOfC qual scope s.heap.objs.size f cd)
  N := N
  s₀ := s
  H₀ := H
  env := envOfC qual scope s.heap.objs.size f cd
  outer := outer
  stack := envOfC qual scope s.heap.objs.size f cd :: outer
  ex := []
  calm := true
  fn := fun _ => true
  pn := []
  xe := fun e s' => wpAny (model P w) (A.deeper (envOfC qual scope s.heap.objs.size f cd)) («leaving» (envOfC qual scope s.heap.objs.size f cd) e) (fun _ s'' => CX outer H s E e s'') (fun e' s'' => CX outer H s E e' s'') s'
theorem cell_has {sc : Scope} {n : Nat} {x : Str} (h : sc.names.lookup x = some .cell) : ∃ c, (cellsFrom n sc.names []).lookup x = some c := by
  have q := PySem.W.cellsFrom_some sc.names n [] (.inl h)
  exact Option.isSome_iff_exists.mp q
theorem inv_start {CX : CXT} {P : Program} {w : World} {K : PySem.W.Frag} {mg : Str → Option Value} {base : Heap} {N ps : List Str} {qual : Str} {scope : Scope} {f : Addr} {cd : Value} {A : Around} {outer : List Env} {s s1 : Shared} {H : Hp} {E : XK} {us : List Value} {vs : List V}
    (S : FnScope N ps scope) (hd : A.handled = none) (e0 : Env0 P w K mg base A outer s H) (hl : vs.length = ps.length) (r : Vals vs us)
    (x : InCallC s s.heap.objs.size (bindL (envOfC qual scope s.heap.objs.size f cd).kindOf (ps.zip us) fun _ => none) (cellsFrom (s.heap.objs.size + 1) scope.names []) (bindC (envOfC qual scope s.heap.objs.size f cd).kindOf (ps.zip us) fun _ => none) s1) :
    Inv (cxOf CX P w K mg base N qual scope f cd A outer s H E) [] (start N vs) H s1 := by
  have hpl : ps.length ≤ N.length := by have := congrArg List.length S.pre; rw [List.length_take] at this; omega
  obtain ⟨h1, tk, rfl, hk⟩ := x.done
  have noA : ∀ b : Addr, b ∉ (cxOf CX P w K mg base N qual scope f cd A outer s H E).ex := fun b z => absurd (show b ∈ ([] : List Addr) from z) (by simp)
  refine ⟨⟨e0.mod, S.kind, rfl, rfl, Nat.le_refl _, fun y z c h1 h2 => ?_, fun y hy => ?_, fun y c _ h => ?_, fun _ => hd, Around.frames_deeper e0.frames, .inr ⟨rfl, rfl⟩, fun b z => absurd z (noA b), e0.bs, e0.bsz, fun b _ _ => noA b, fun b z => absurd z (noA b), e0.funs, e0.frf⟩,
    rfl, e0.bare, Un.kept hk, ⟨_, x.toInCall.ns, fun i y v h1 h2 h3 => ?_⟩, fun y c h => ⟨_, x.cell y c h⟩, e0.hok.fresh (Nat.le_refl _), fun y c h => ?_, fun p hp => absurd (show p ∈ ([] : List (Addr × Obj)) from hp) (by simp), e0.hok.kept hk, ?_⟩
  · exact name_of_addr x.apart (PySem.mem_of_lookup h1) (PySem.mem_of_lookup h2)
  · have hy : scope.names.lookup y = some .cell ∨ scope.names.lookup y = some .free := hy
    rcases hy with hy | hy
    · exact cell_has hy
    · exact absurd rfl (S.nofree _ (PySem.mem_of_lookup hy))
  · exact Nat.le_of_lt (x.above y c (PySem.mem_of_lookup h))
  · have hi : i < vs.length := by
      unfold start at h2
      by_cases hi : i < vs.length
      · exact hi
      · rw [List.getElem?_append_right (by simpa using hi)] at h2
        rw [List.getElem?_replicate] at h2
        split at h2 <;> cases h2
    have ha : vs[i]? = some v := by
      unfold start at h2
      rw [List.getElem?_append_left (by simpa using hi), List.getElem?_map] at h2
      cases e : vs[i]? with
      | none => rw [e] at h2; cases h2
      | some a => rw [e] at h2; cases h2; rfl
    obtain ⟨u, hu, rv⟩ := r.get ha
    have hp : ps[i]? = some y := by
      rw [← S.pre, List.getElem?_take_of_lt (by omega)]; exact h1
    have ndP : ps.Nodup := by rw [← S.pre]; exact S.nd.sublist (List.take_sublist _ _)
    refine ⟨u, rv, ?_⟩
    rcases S.par y (List.mem_of_getElem? hp) with k | k
    · exact .inl ⟨k, bindL_get ndP hp hu k⟩
    · obtain ⟨c, e⟩ := cell_has (n := s.heap.objs.size + 1) k
      refine .inr ⟨.inl k, c, e, ?_⟩
      have q := x.cell y c e
      rw [bindC_get ndP hp hu (by show scope.names.lookup y ≠ _; rw [k]; decide)] at q
      exact q
  · exact e0.hok.fresh (Nat.le_of_lt (x.above y c (PySem.mem_of_lookup h)))
  · unfold start
    show _ = N.length
    rw [List.length_append, List.length_map, List.length_replicate]
    omega
theorem fn_of {CX : CXT} {P : Program} {w : World} {K : PySem.W.Frag} {mg : Str → Option Value} {base : Heap} {k : Nat} {f : Addr} {name qual : Str} {params : Arguments} {body : List Stmt} {scope : Scope} {dV kV doc pm cdv ct oc : Value} {an od : Option Addr}
    {osl : Array (Option Value)} {N ps : List Str} {sp : Sp} (lk : K.lookup f = some ⟨oc, od, .func (PySem.W.fnOf name qual params body scope dV kV doc pm an cdv ct), osl⟩) (hcd : PySem.W.codeIn K cdv qual = true) (S : FnScope N ps scope)
    (len : ∀ vs H Q E, sp vs H Q E → vs.length = ps.length)
    (hbody : ∀ (A : Around) (outer : List Env) (s : Shared) (H : Hp) (vs : List V) (Q : VK) (E : XK), Room k (A.deeper (envOfC qual scope s.heap.objs.size f cdv)) → sp vs H Q E →
      ∃ t, PSs (cxOf CX P w K mg base N qual scope f cdv A outer s H E) body t ∧ t { nx := fun _ H' => Q .non H', rt := Q } (start N vs) H) :
    FnOk P w K mg base CX (k + 1) f (PySem.W.fnOf name qual params body scope dV kV doc pm an cdv ct) ps sp := by
  refine ⟨len, fun A outer s H args us vs Q E hr e0 hb r hsp => ?_⟩
  have hl := len _ _ _ _ hsp
  have KX : K.In s.heap := e0.mod.kin.keeps fun b o e => (e0.bs b o e).1
  have lim : s.heap.NoLimit := e0.mod.nolimit.keeps fun b o e => (e0.bs b o e).1
  have hkind : ∀ y ∈ ps.zip us, scope.names.lookup y.1 = some .local ∨ (scope.names.lookup y.1 = some .cell ∧ ((cellsFrom (s.heap.objs.size + 1) scope.names []).lookup y.1).isSome = true) := fun ⟨n, v⟩ hy => by
    rcases S.par n (List.of_mem_zip hy).1 with q | q
    · exact .inl q
    · exact .inr ⟨q, PySem.W.cellsFrom_some _ _ _ (.inl q)⟩
  refine codeAny_call_function hr.depth (KX _ _ lk) rfl S.co S.gen rfl (PySem.W.codeRec_of KX hcd) (hb _ _ _ _ ?_)
  refine wpAny_newFunctionEnv_cells S.kind hkind fun env he s1 x => ?_
  subst he
  refine ⟨lim.keeps x.toInCall.keep, codeAny_func ?_⟩
  obtain ⟨t, ht, hq⟩ := hbody A outer s H vs Q E (hr.deeper _) hsp
  have I : Inv (cxOf CX P w K mg base N qual scope f cdv A outer s H E) [] (start N vs) H s1 := inv_start S hr.hd e0 hl r x
  refine wpAny_mono (ht [] s1 (start N vs) H _ I hq) (fun fl s' hs => ?_) fun e s' hs => hs
  have fin : ∀ {σ' : St} {H' : Hp} {v : V} {u : Value}, Inv (cxOf CX P w K mg base N qual scope f cdv A outer s H E) [] σ' H' s' → RelV v u → Q v H' → CE outer P w H s Q u s' :=
    fun {σ' H' v u} J rv q => ⟨v, H', J.os, J.bare, J.base, J.hok, rv, q⟩
  cases fl with
  | ret u =>
    obtain ⟨v, σ', H', J, rv, q⟩ := hs
    exact fin J rv q
  | next =>
    obtain ⟨σ', H', J, q⟩ := hs
    exact fin (v := V.non) (u := Value.none) J rfl q
  | brk =>
    obtain ⟨_, _, _, q⟩ := hs
    exact False.elim q
  | cont =>
    obtain ⟨_, _, _, q⟩ := hs
    exact False.elim q
end L2
namespace L2
open PySem PySem.Spec PyProof.Rows
section
variable {X : Cx} {x : Str} {p pos : Pos} {e : Expr} {es : List Expr} {t : TA} {id T : String} {r : List V → Hp → VK → Prop}
def tCB (r : List V → Hp → VK → Prop) (t : TA) : TE := fun σ H Q => t σ H fun vs H1 => r vs H1 Q
theorem pe_callB (hc : CallR X (.builtin id) r) (hg : Gl X x) (hm : X.mg x = none) (hv : bootBuiltins x = some (.builtin id)) (ha : PA X (e :: es) t) (hn : x ≠ "__name__" := by decide) (hdb : (x == ("__debug__" : Str)) = false := by decide)
    (he : starEach (e :: es) X.env = (false, eval e X.env) :: starEach es X.env := by rfl) (hpl : (backTo pos (starEach es X.env)).any (·.1) = false := by rfl) : PE X (.Call (.Name x p) (e :: es) [] pos) (tCB r t) := by
  intro pins s σ H Q I h
  refine wpAny_Call_Name_kw (ld_blt I hg hm hv ?_ hn hdb)
  exact PyProof.Rows.callWith_builtin1 (thn (ha pos pins s σ H _ I h) fun us s1 ⟨vs, H1, I1, r1, q1⟩ => hc pins s1 σ H1 vs us Q I1 r1 q1) he hpl
theorem pe_callTy (hc : CallR X (.type T) r) (hg : Gl X x) (hm : X.mg x = none) (hv : bootBuiltins x = some (.type T)) (ha : PA X (e :: es) t) (hn : x ≠ "__name__" := by decide) (hdb : (x == ("__debug__" : Str)) = false := by decide)
    (he : starEach (e :: es) X.env = (false, eval e X.env) :: starEach es X.env := by rfl) (hpl : (backTo pos (starEach es X.env)).any (·.1) = false := by rfl) : PE X (.Call (.Name x p) (e :: es) [] pos) (tCB r t) := by
  intro pins s σ H Q I h
  refine wpAny_Call_Name_kw (ld_blt I hg hm hv ?_ hn hdb)
  exact PyProof.Rows.callWith_type1 (thn (ha pos pins s σ H _ I h) fun us s1 ⟨vs, H1, I1, r1, q1⟩ => hc pins s1 σ H1 vs us Q I1 r1 q1) he hpl
end
end L2
namespace HT
open PySem PyProof.Rows
section
open PySem.SeqAt
open PySem.AutoSeq1 (wpAny_loadPart')
open PySem.MeetsSeq PySem.MeetsSeq2 PySem.MeetsSeq3
end
section
variable {prog : Program} {w : World} {A : Around} {E : Value → Shared → Prop} {s : Shared}
theorem cat_tup {t b : Addr} {vs ws : List Value} {Q : Value → Shared → Prop} (ht : IsTup s.heap t vs.toArray) (hb : IsTup s.heap b ws.toArray) (hv : vs ≠ [])
    (h1 : ws = [] → Q (.ref t) s) (h2 : ws ≠ [] → Q (.ref s.heap.objs.size) { s with heap := s.heap.push { cls := .type "tuple", data := .seq (vs ++ ws).toArray } })
    (hsz : vs.length + ws.length ≤ sizeLine) : wpAny (model prog w) A (binaryOp .Add (.ref t) (.ref b)) Q E s := by
  obtain ⟨⟨cls, dd, data, sl⟩, ho, hc, n, hd⟩ := id ht
  obtain ⟨⟨cls2, dd2, data2, sl2⟩, ho2, hc2, n2, hd2⟩ := id hb
  simp only at hc hd hc2 hd2
  subst hc hd hc2 hd2
  have e : vs.toArray ++ ws.toArray = (vs ++ ws).toArray := by simp
  by_cases hw : ws = []
  · exact concat_meets ⟨_, ho, rfl⟩ ⟨_, ho2, rfl⟩ noFill_tuple_add seq_tuple_add PySem.F.slot_tuple_add PySem.F.entry_tuple_add (PySem.F.args_tuple_add_2 _ _)
      (tuple_addW1 t b vs.toArray ws.toArray n n2 dd dd2 sl sl2 (by simpa using hv) (by simp [hw])) ⟨ho, ho2, h1 hw⟩
  · refine concat_meets ⟨_, ho, rfl⟩ ⟨_, ho2, rfl⟩ noFill_tuple_add seq_tuple_add PySem.F.slot_tuple_add PySem.F.entry_tuple_add (PySem.F.args_tuple_add_2 _ _)
      (tuple_addW2 t b vs.toArray ws.toArray n n2 dd dd2 sl sl2 (by simpa using hv) (by simpa using hw) (by rw [List.size_toArray, List.size_toArray]; exact hsz)) ⟨ho, ho2, ?_⟩
    rw [e]
    exact h2 hw
def sIx (n d : Nat) : Option Int → Nat
  | none => d
  | some v => if v < 0 then (v + (n : Int)).toNat else min v.toNat n
theorem sIx_nat (n d k : Nat) : sIx n d (some (k : Int)) = min k n := by
  show (if (k : Int) < 0 then ((k : Int) + (n : Int)).toNat else min (k : Int).toNat n) = min k n
  rw [if_neg (by omega), Int.toNat_natCast]
theorem sIx_le (n d : Nat) (hd : d ≤ n) (o : Option Int) : sIx n d o ≤ n := by
  cases o with
  | none => exact hd
  | some v =>
    show (if v < 0 then (v + (n : Int)).toNat else min v.toNat n) ≤ n
    by_cases hv : v < 0
    · rw [if_pos hv]; omega
    · rw [if_neg hv]; exact Nat.min_le_right _ _
theorem clip_eq (v : Int) (n d : Nat) : (if v < 0 then max (v + (n : Int)) 0 else min v (n : Int)) = ((sIx n d (some v) : Nat) : Int) := by
  show (if v < 0 then max (v + (n : Int)) 0 else min v (n : Int)) = (((if v < 0 then (v + (n : Int)).toNat else min v.toNat n) : Nat) : Int)
  by_cases hv : v < 0
  · simp only [if_pos hv]; omega
  · simp only [if_neg hv]; omega
theorem adjust_gen (lo hi : Option Int) (n : Nat) : Builtin.Slice.sliceAdjust lo hi 1 (n : Int) = (((sIx n 0 lo : Nat) : Int), ((sIx n n hi : Nat) : Int)) := by
  have h1 : ¬ ((1 : Int) < 0) := by omega
  unfold Builtin.Slice.sliceAdjust
  simp only [h1, if_false]
  refine Prod.ext ?_ ?_
  · cases lo with
    | none => rfl
    | some v => exact clip_eq v n 0
  · cases hi with
    | none => rfl
    | some v => exact clip_eq v n n
theorem places_gen (i j : Nat) : Builtin.Slice.slicePlaces (i : Int) (j : Int) 1 = j - i := by
  unfold Builtin.Slice.slicePlaces
  have h1 : (1 : Int) > 0 := by omega
  simp only [h1, if_true, Int.ediv_one]
  split <;> omega
theorem slicePart_ {v : Value} {o : Option Int} {Q : Option Int → Shared → Prop} (p : IsPart v o) (h : Q o s) : wpAny (model prog w) A (Builtin.Slice.slicePartIndex v) Q E s := by
  cases p with
  | none => exact slicePart_none h
  | int i t => exact slicePart_int h
theorem sliceApplied_gen {sl : Addr} {vl vu : Value} {lo hi : Option Int} {n : Nat} {Q : Int × Int × Nat → Shared → Prop} (hs : s.heap.IsSliceOf sl vl vu .none) (pl : IsPart vl lo) (pu : IsPart vu hi)
    (h : Q (((sIx n 0 lo : Nat) : Int), 1, sIx n n hi - sIx n 0 lo) s) : wpAny (model prog w) A (Builtin.Slice.sliceApplied (.ref sl) (pure (n : Int))) Q E s := by
  obtain ⟨os, hos, hcs, hds⟩ := id hs
  unfold Builtin.Slice.sliceApplied Builtin.Slice.sliceFields
  refine wpAny_bind (wpAny_bind (wpAny_field hos hds (x := vl) rfl (wpAny_bind (wpAny_field hos hds (x := vu) rfl (wpAny_bind (wpAny_field hos hds (x := .none) rfl (wpAny_pure ?_)))))))
  refine wpAny_bind (slicePart_none ?_)
  show wpAny _ _ (if ((1 : Int) == 0) = true then _ else _) _ _ s
  rw [if_neg (by decide)]
  refine wpAny_bind (slicePart_ pl (wpAny_bind (slicePart_ pu (wpAny_bind (wpAny_pure ?_)))))
  show wpAny _ _ (match Builtin.Slice.sliceAdjust lo hi 1 (n : Int) with | (lo, hi) => pure (lo, (1 : Int), Builtin.Slice.slicePlaces lo hi 1)) _ _ s
  rw [adjust_gen lo hi n]
  show wpAny _ _ (pure (((sIx n 0 lo : Nat) : Int), (1 : Int), Builtin.Slice.slicePlaces ((sIx n 0 lo : Nat) : Int) ((sIx n n hi : Nat) : Int) 1)) _ _ s
  rw [places_gen]
  exact wpAny_pure h
theorem pick_gen (xs : Array Value) (i k : Nat) : ((List.range k).filterMap fun (m : Nat) => xs[((i : Int) + (m : Int) * 1).toNat]?).toArray = ((xs.toList.drop i).take k).toArray := by
  have e : (fun (m : Nat) => xs[((i : Int) + (m : Int) * 1).toNat]?) = fun m => xs[i + m]? := by
    funext m
    have : ((i : Int) + (m : Int) * 1).toNat = i + m := by omega
    rw [this]
  rw [e]
  have := pick_run xs i k
  rw [List.filterMap_map] at this
  have e2 : ((fun x => xs[x]?) ∘ fun x => i + x) = fun m => xs[i + m]? := rfl
  rw [e2] at this
  rw [this]
theorem getItem_tuple_cut {t sl : Addr} {items : Array Value} {vl vu : Value} {lo hi : Option Int} {Q : Value → Shared → Prop} (ht : IsTup s.heap t items) (hs : s.heap.IsSliceOf sl vl vu .none) (pl : IsPart vl lo) (pu : IsPart vu hi)
    (hw : ¬ (sIx items.size 0 lo = 0 ∧ sIx items.size items.size hi = items.size))
    (h : Q (.ref s.heap.objs.size) { s with heap := s.heap.push { cls := .type "tuple", data := .seq ((items.toList.drop (sIx items.size 0 lo)).take (sIx items.size items.size hi - sIx items.size 0 lo)).toArray } })
    (hsz : items.size ≤ sizeLine) : wpAny (model prog w) A (getItem (.ref t) (.ref sl)) Q E s := by
  have htake : sizeOk (.seq ((items.toList.drop (sIx items.size 0 lo)).take (sIx items.size items.size hi - sIx items.size 0 lo)).toArray) := by
    show ((items.toList.drop (sIx items.size 0 lo)).take (sIx items.size items.size hi - sIx items.size 0 lo)).toArray.size ≤ sizeLine
    rw [List.size_toArray, List.length_take, List.length_drop, Array.length_toList]
    omega
  have hj : sIx items.size items.size hi ≤ items.size := sIx_le _ _ (Nat.le_refl _) hi
  obtain ⟨os, hos, hcs, hds⟩ := id hs
  have hTs : s.TypeIs (.ref sl) "slice" := ⟨os, hos, hcs⟩
  unfold getItem
  try with_reducible refine wpAny_holding ?_
  first | refine wpAny_bind (wpAny_pure ?_) | skip
  refine wpAny_bind (wpAny_sequenceKey ht.typeIs (by decide) ?_)
  refine wpAny_bind (wpAny_callSpecial?_slot (name := Str.ofString "__getitem__") ht.typeIs PyProof.Rows.slot_tuple_getitem
    (wpAny_call_entry PyProof.Rows.slot_tuple_getitem ht.typeIs entry_tuple_getitem ?_ (args_tuple_getitem _ _)))
  show wpAny _ _ (Builtin.Tuple.tupleItemsOf (.ref t) >>= _) _ _ s
  refine wpAny_bind (tupleItemsOf_ ht ?_)
  refine wpAny_bind (wpAny_typeOf hTs ?_)
  rw [if_pos (by decide)]
  refine wpAny_bind (sliceApplied_gen hs pl pu ?_)
  have hno : ¬ ((((sIx items.size 0 lo : Nat) : Int) == 0 && (1 : Int) == 1 && (sIx items.size items.size hi - sIx items.size 0 lo) == items.size) = true) := by
    intro q
    rw [Bool.and_eq_true, Bool.and_eq_true] at q
    have q1 : ((sIx items.size 0 lo : Nat) : Int) = 0 := eq_of_beq q.1.1
    have q2 : sIx items.size items.size hi - sIx items.size 0 lo = items.size := eq_of_beq q.2
    exact hw ⟨by omega, by omega⟩
  show wpAny _ _ (if (((sIx items.size 0 lo : Nat) : Int) == 0 && (1 : Int) == 1 && (sIx items.size items.size hi - sIx items.size 0 lo) == items.size) = true then _ else _) _ _ s
  rw [if_neg hno, pick_gen]
  first
    | exact wpAny_bind (m := Builtin.Tuple.tupleExact _) (wpAny_newObj_type (wpAny_pure ⟨_, rfl, wpAny_pure h⟩) htake)
    | exact wpAny_bind (m := Builtin.Tuple.tupleExact _) (wpAny_newObj_type (wpAny_bind (wpAny_pure (wpAny_pure ⟨_, rfl, wpAny_pure h⟩))) htake)
    | exact wpAny_bind (wpAny_bind (m := Builtin.Tuple.tupleExact _) (wpAny_newObj_type (wpAny_pure (wpAny_pure ⟨_, rfl, wpAny_pure h⟩)) htake))
    | exact wpAny_bind (wpAny_bind (m := Builtin.Tuple.tupleExact _) (wpAny_newObj_type (wpAny_pure ⟨_, rfl, wpAny_pure h⟩) htake))
end
end HT
namespace L2
open PySem PySem.Spec PyProof.Rows
abbrev TO := St → Hp → (Option Int → Hp → Prop) → Prop
def PO (X : Cx) (e : Option Expr) (t : TO) : Prop :=
  ∀ (pins : List (Addr × Obj)) (s : Shared) (σ : St) (H : Hp) (Q : Option Int → Hp → Prop), Inv X pins σ H s → t σ H Q →
    wpAny (model X.prog X.w) X.A (evalPart e X.env) (fun u s' => ∃ o H', Inv X pins σ H' s' ∧ IsPart u o ∧ Q o H') X.xe s
def tNoPart : TO := fun _ H Q => Q none H
def tPart (t : TE) : TO := fun σ H Q => t σ H fun x H1 => ∃ i, x = .int i ∧ Q (some i) H1
section
variable {X : Cx} {e : Expr} {te : TE} {lo hi : Option Expr} {tl th : TO} {pos p2 : Pos}
theorem po_none : PO X none tNoPart := by
  intro pins s σ H Q I h
  rw [evalPart_none]
  exact wpAny_pure ⟨none, H, I, .none, h⟩
theorem po_some (h : PE X e te) : PO X (some e) (tPart te) := by
  intro pins s σ H Q I hw
  rw [evalPart_some]
  refine thn (h pins s σ H _ I hw) fun u s1 ⟨x, H1, I1, r1, q1⟩ => ?_
  obtain ⟨i, rfl, q⟩ := q1
  obtain ⟨t, rfl⟩ := r1
  exact ⟨some i, H1, I1, .int i t, q⟩
def SlR (X : Cx) (r : V → Option Int → Option Int → Hp → VK → Prop) : Prop :=
  ∀ (pins : List (Addr × Obj)) (s : Shared) (σ : St) (H : Hp) (x : V) (v vl vu : Value) (lo hi : Option Int) (sl : Addr) (Q : VK), Inv X pins σ H s → RelV x v → s.heap.IsSliceOf sl vl vu .none → IsPart vl lo → IsPart vu hi → r x lo hi H Q →
    ∃ T id, typeLookup (.type T) "__getitem__" = pure (some (.builtin id)) ∧ s.TypeIs v T ∧ wpAny (model X.prog X.w) X.A (getItem v (.ref sl)) (EP X pins σ Q) X.xe s
theorem SlR.or {r r' : V → Option Int → Option Int → Hp → VK → Prop} (h : SlR X r) (h' : SlR X r') : SlR X (fun x lo hi H Q => r x lo hi H Q ∨ r' x lo hi H Q) := by
  intro pins s σ H x v vl vu lo hi sl Q I rx hs pl pu q
  rcases q with q | q
  · exact h pins s σ H x v vl vu lo hi sl Q I rx hs pl pu q
  · exact h' pins s σ H x v vl vu lo hi sl Q I rx hs pl pu q
def tSl (r : V → Option Int → Option Int → Hp → VK → Prop) (te : TE) (tl th : TO) : TE := fun σ H Q => te σ H fun x H1 => tl σ H1 fun l H2 => th σ H2 fun u H3 => r x l u H3 Q
theorem pe_slice {r : V → Option Int → Option Int → Hp → VK → Prop} (hr : SlR X r) (he : PE X e te) (hl : PO X lo tl) (hu : PO X hi th) : PE X (.Subscript e (.Slice lo hi none p2) pos) (tSl r te tl th) := by
  intro pins s σ H Q I h
  refine Subscript_ (thn (he pins s σ H _ I h) fun v s1 ⟨x, H1, I1, r1, q1⟩ => ?_)
  refine wpAny_Slice (thn (hl pins s1 σ H1 _ I1 q1) fun vl s2 ⟨l, H2, I2, pl, q2⟩ => thn (hu pins s2 σ H2 _ I2 q2) fun vu s3 ⟨u, H3, I3, pu, q3⟩ => ?_)
  rw [evalPart_none]
  refine wpAny_pure ?_
  have I4 : Inv X pins σ H3 { s3 with heap := s3.heap.push { cls := .type "slice", data := .fields #[vl, vu, .none] } } := I3.kept (t' := s3.toks) fun b ob q => Heap.get?_push_of_some _ q
  obtain ⟨T, id, hT, ht, hg⟩ := hr pins { s3 with heap := s3.heap.push { cls := .type "slice", data := .fields #[vl, vu, .none] } } σ H3 x v vl vu l u s3.heap.objs.size Q I4 r1 (Heap.IsSliceOf.new ..) pl pu q3
  show wpAny (model X.prog X.w) X.A (subscriptTail e (.Slice lo hi none p2) v (.ref s3.heap.objs.size)) (EP X pins σ Q) X.xe { s3 with heap := s3.heap.push { cls := .type "slice", data := .fields #[vl, vu, .none] } }
  exact tail_any (ops := [.ref s3.heap.objs.size, v]) ht hT hg (by with_unfolding_all rfl)
def cutV (xs : List V) (lo hi : Option Int) : List V := (xs.drop (HT.sIx xs.length 0 lo)).take (HT.sIx xs.length xs.length hi - HT.sIx xs.length 0 lo)
theorem cutV_length (xs : List V) (lo hi : Option Int) : (cutV xs lo hi).length ≤ xs.length := by
  unfold cutV
  rw [List.length_take, List.length_drop]
  omega
def rSlT (K : PySem.W.Frag) : V → Option Int → Option Int → Hp → VK → Prop := fun x lo hi H Q => ∃ a xs, x = .ref a ∧ SqT K H a xs ∧
  ¬ (HT.sIx xs.length 0 lo = 0 ∧ HT.sIx xs.length xs.length hi = xs.length) ∧ ∀ p, H p = none → Q (.ref p) (upd H p (.tup (cutV xs lo hi)))
theorem sl_tup : SlR X (rSlT X.K) := by
  intro pins s σ H x v vl vu lo hi sl Q I rx hs pl pu h
  obtain ⟨a, xs, rfl, hx, hw, q⟩ := h
  cases rx
  obtain ⟨its, r, ht, hz⟩ := I.tuple hx
  have hlen : its.toArray.size = xs.length := by rw [List.size_toArray]; exact r.length.symm
  refine ⟨"tuple", _, PyProof.Rows.slot_tuple_getitem.lookup, ht.typeIs, ?_⟩
  refine HT.getItem_tuple_cut ht hs pl pu (by rw [hlen]; exact hw) ?_ (by rw [hlen]; exact hz)
  rw [hlen]
  refine ⟨.ref s.heap.objs.size, _, I.laid (t' := s.toks) (o := .tup (cutV xs lo hi)) (fun b ob q => Heap.get?_push_of_some _ q) (Nat.le_refl _) ?_, rfl, q _ (I.hok.fresh (Nat.le_refl _))⟩
  exact ⟨Nat.le_trans (cutV_length xs lo hi) hz, _, (r.drop (HT.sIx xs.length 0 lo)).take (HT.sIx xs.length xs.length hi - HT.sIx xs.length 0 lo), IsTup.new _ _⟩
def rCatT (K : PySem.W.Frag) : R2 := fun x y H Q => ∃ a b xs ys, x = .ref a ∧ y = .ref b ∧ SqT K H a xs ∧ SqT K H b ys ∧ xs ≠ [] ∧ xs.length + ys.length ≤ sizeLine ∧
  (ys = [] → Q (.ref a) H) ∧ (ys ≠ [] → ∀ p, H p = none → Q (.ref p) (upd H p (.tup (xs ++ ys))))
theorem Vals.nil_iff {xs : List V} {us : List Value} (r : Vals xs us) : us = [] ↔ xs = [] := by
  cases r with
  | nil => simp
  | cons _ _ => simp
theorem op_catT : OpR X (binaryOp .Add) (rCatT X.K) := by
  intro pins s σ H x y v u Q I rx ry h
  obtain ⟨a, b, xs, ys, rfl, rfl, ha, hb, hx, hz, q1, q2⟩ := h
  cases rx
  cases ry
  obtain ⟨its, r1, p1, _⟩ := I.tuple ha
  obtain ⟨its2, r2, p2, _⟩ := I.tuple hb
  refine HT.cat_tup p1 p2 (fun z => hx (r1.nil_iff.mp z)) (fun z => ⟨.ref a, H, I, rfl, q1 (r2.nil_iff.mp z)⟩) (fun z => ?_) (by rw [← r1.length, ← r2.length]; exact hz)
  refine ⟨.ref s.heap.objs.size, _, I.laid (t' := s.toks) (o := .tup (xs ++ ys)) (fun b ob q => Heap.get?_push_of_some _ q) (Nat.le_refl _) ?_, rfl, q2 (fun w => z (r2.nil_iff.mpr w)) _ (I.hok.fresh (Nat.le_refl _))⟩
  exact ⟨by rw [List.length_append]; exact hz, _, r1.append r2, IsTup.new _ _⟩
end
end L2
namespace L2
open PySem PySem.Spec PyProof.Rows
def ixN (n : Nat) (i : Int) : Option Nat := if 0 ≤ i then (if i < n then some i.toNat else none) else if -(n : Int) ≤ i then some (i + n).toNat else none
def atI {α : Type} (xs : List α) (i : Int) : Option α := (ixN xs.length i).bind fun j => xs[j]?
theorem ixN_seq {n : Nat} {i : Int} {j : Nat} (h : ixN n i = some j) : seqIndex? i n = some j ∧ j < n ∧ -(n : Int) ≤ i ∧ i < n := by
  unfold ixN at h
  by_cases h0 : 0 ≤ i
  · rw [if_pos h0] at h
    by_cases h1 : i < n
    · rw [if_pos h1] at h
      have e : i.toNat = j := Option.some.inj h
      exact ⟨by rw [seqIndex_of h0 h1, e], by omega, by omega, h1⟩
    · rw [if_neg h1] at h; cases h
  · rw [if_neg h0] at h
    by_cases h1 : -(n : Int) ≤ i
    · rw [if_pos h1] at h
      have e : (i + n).toNat = j := Option.some.inj h
      exact ⟨by rw [seqIndex_neg (by omega) h1, e], by omega, h1, by omega⟩
    · rw [if_neg h1] at h; cases h
theorem atI_get {α : Type} {xs : List α} {i : Int} {v : α} (h : atI xs i = some v) : ∃ j, seqIndex? i xs.length = some j ∧ xs[j]? = some v ∧ j < xs.length ∧ -(xs.length : Int) ≤ i ∧ i < xs.length := by
  unfold atI at h
  cases e : ixN xs.length i with
  | none => rw [e] at h; cases h
  | some j =>
    rw [e] at h
    obtain ⟨h1, h2, h3, h4⟩ := ixN_seq e
    exact ⟨j, h1, h, h2, h3, h4⟩
theorem atI_nat {α : Type} {xs : List α} {j : Nat} {v : α} (h : xs[j]? = some v) : atI xs (j : Int) = some v := by
  have hj : j < xs.length := (List.getElem?_eq_some_iff.mp h).1
  have e : ixN xs.length (j : Int) = some j := by
    unfold ixN
    rw [if_pos (by omega), if_pos (by omega)]; simp
  unfold atI; rw [e]; exact h
def PlainIx (b : Expr) : Prop := ∀ o i, subscripted b false o i = operate [o, i] (getItem o i)
def IxR (X : Cx) (r : R2) : Prop :=
  ∀ (value slice : Expr) (pins : List (Addr × Obj)) (s : Shared) (σ : St) (H : Hp) (x y : V) (v u : Value) (Q : VK), Inv X pins σ H s → RelV x v → RelV y u → r x y H Q →
    subscripted slice false v u = operate [v, u] (getItem v u) → wpAny (model X.prog X.w) X.A (subscriptTail value slice v u) (EP X pins σ Q) X.xe s
def MtR (X : Cx) (id : String) (r : V → List V → Hp → VK → Prop) : Prop :=
  ∀ (pins : List (Addr × Obj)) (s : Shared) (σ : St) (H : Hp) (x : V) (xs : List V) (v : Value) (us : List Value) (Q : VK), Inv X pins σ H s → RelV x v → Vals xs us → r x xs H Q →
    wpAny (model X.prog X.w) X.A (call (.builtin id) (v :: us)) (EP X pins σ Q) X.xe s
section
variable {X : Cx} {a b : Expr} {ta tb : TE} {pos : Pos}
theorem IxR.or {r r' : R2} (h : IxR X r) (h' : IxR X r') : IxR X (fun x y H Q => r x y H Q ∨ r' x y H Q) := by
  intro value slice pins s σ H x y v u Q I rx ry q hs
  rcases q with q | q
  · exact h value slice pins s σ H x y v u Q I rx ry q hs
  · exact h' value slice pins s σ H x y v u Q I rx ry q hs
theorem pe_ix {r : R2} (hr : IxR X r) (ha : PE X a ta) (hb : PE X b tb) (hs : PlainIx b) : PE X (.Subscript a b pos) (tOp r ta tb) := by
  intro pins s σ H Q I h
  exact Subscript_ (binT ha hb I h fun v u s2 x y H2 I2 rx ry q => hr a b pins s2 σ H2 x y v u Q I2 rx ry q (hs _ _))
def rIxL (K : PySem.W.Frag) : R2 := fun x y H Q => ∃ p xs i v, x = .ref p ∧ y = .int i ∧ SqL K H p xs ∧ atI xs i = some v ∧ Q v H
def rIxT (K : PySem.W.Frag) : R2 := fun x y H Q => ∃ p xs i v, x = .ref p ∧ y = .int i ∧ SqT K H p xs ∧ atI xs i = some v ∧ Q v H
def rIxS : R2 := fun x y H Q => ∃ z i c, x = .str z ∧ y = .int i ∧ z.length ≤ sizeLine ∧ atI z.cps.toList i = some c ∧ Q (.str ⟨#[c]⟩) H
theorem ix_list : IxR X (rIxL X.K) := by
  intro value slice pins s σ H x y v u Q I rx ry h hs
  obtain ⟨p, xs, i, z, rfl, rfl, hq, he, q⟩ := h
  cases rx
  obtain ⟨t, rfl⟩ := ry
  obtain ⟨its, r, pl, hz⟩ := I.list hq
  obtain ⟨j, h1, h2, h3, h4, h5⟩ := atI_get he
  obtain ⟨w, ew, rw'⟩ := r.get h2
  have hl := r.length
  have hn := line63
  have fin : EP X pins σ Q w s := ⟨z, H, I, rw', q⟩
  by_cases h0 : 0 ≤ i
  · have hj : i.toNat = j := by
      rw [seqIndex_of h0 h5] at h1
      exact Option.some.inj h1
    exact item_listR pl.isList h0 (by omega) (by rw [hj]; simpa using ew) fin hs
  · have hj : (i + (its.toArray.size : Int)).toNat = j := by
      rw [seqIndex_neg (by omega) h4] at h1
      rw [List.size_toArray, ← hl]
      exact Option.some.inj h1
    exact subscriptTail_builtinR (x := w) pl.isList.typeIs slot_list_getitem.lookup
      (wpAny_getItem_list_neg (Q := fun r s' => r = w ∧ EP X pins σ Q r s') pl.isList (by omega) (by rw [List.size_toArray] <;> omega) (by omega) (by rw [hj]; simpa using ew) ⟨rfl, fin⟩) hs
theorem ix_tup : IxR X (rIxT X.K) := by
  intro value slice pins s σ H x y v u Q I rx ry h hs
  obtain ⟨p, xs, i, z, rfl, rfl, hq, he, q⟩ := h
  cases rx
  obtain ⟨t, rfl⟩ := ry
  obtain ⟨its, r, pl, hz⟩ := I.tuple hq
  obtain ⟨j, h1, h2, h3, h4, h5⟩ := atI_get he
  obtain ⟨w, ew, rw'⟩ := r.get h2
  have hl := r.length
  have hn := line63
  have fin : EP X pins σ Q w s := ⟨z, H, I, rw', q⟩
  exact subscriptTail_builtinR (x := w) pl.typeIs slot_tuple_getitem.lookup
    (getItem_tuple (j := j) (Q := fun r s' => r = w ∧ EP X pins σ Q r s') pl (by omega) (by omega) (by rw [List.size_toArray, ← hl]; exact h1) (by simpa using ew) ⟨rfl, fin⟩) hs
theorem ix_str : IxR X rIxS := by
  intro value slice pins s σ H x y v u Q I rx ry h hs
  obtain ⟨z, i, c, rfl, rfl, hz, he, q⟩ := h
  obtain ⟨t, rfl⟩ := rx
  obtain ⟨t', rfl⟩ := ry
  obtain ⟨j, h1, h2, h3, h4, h5⟩ := atI_get he
  have hl : z.cps.toList.length = z.length := by simp [Str.length]
  rw [hl] at h1 h4 h5
  have hn := line63
  exact tail_any (typeIs_str s z t) slot_str_getitem.lookup (getItem_str (c := c) (by
    have e1 : decide (i < -(2 ^ 63 : Int)) = false := decide_eq_false (by omega)
    have e2 : decide (i ≥ 2 ^ 63) = false := decide_eq_false (by omega)
    rw [e1, e2, Bool.or_false]) (by rw [h1]; simpa using h2) ⟨.str ⟨#[c]⟩, H, I.tok _, ⟨_, rfl⟩, q⟩) hs
def rIx (K : PySem.W.Frag) : R2 := fun x y H Q => rIxL K x y H Q ∨ rIxT K x y H Q ∨ rIxS x y H Q
theorem ix_seq : IxR X (rIx X.K) := ix_list.or (ix_tup.or ix_str)
theorem mapSeq_set (its : List Value) (n j : Nat) (u : Value) : Obj.mapSeq (·.setIfInBounds j u) { cls := .type "list", data := .seq its.toArray n } = { cls := .type "list", data := .seq (its.set j u).toArray n } := by
  simp [Obj.mapSeq]
theorem Inv.lst {pins : List (Addr × Obj)} {σ : St} {H : Hp} {s : Shared} {p : Addr} {xs : List V} (I : Inv X pins σ H s) (h : H p = some (.lst xs)) :
    ∃ (its : List Value) (n : Nat), Vals xs its ∧ s.heap.get? p = some { cls := .type "list", data := .seq its.toArray n } ∧ xs.length ≤ sizeLine := by
  obtain ⟨z, its, n, r, e⟩ := I.hok p _ h
  exact ⟨its, n, r, e, z⟩
theorem Inv.lstUpd {pins : List (Addr × Obj)} {σ : St} {H : Hp} {s : Shared} {p : Addr} {xs ys : List V} {its its' : List Value} {n n' : Nat} {f : Obj → Obj} (I : Inv X pins σ H s) (h : H p = some (.lst xs))
    (ho : s.heap.get? p = some { cls := .type "list", data := .seq its.toArray n }) (hf : f { cls := .type "list", data := .seq its.toArray n } = { cls := .type "list", data := .seq its'.toArray n' }) (r : Vals ys its') (hz : ys.length ≤ sizeLine) (t : Nat) :
    Inv X pins σ (upd H p (.lst ys)) { s with heap := s.heap.update p f, toks := t } := by
  have e : (s.heap.update p f).get? p = some { cls := .type "list", data := .seq its'.toArray n' } := by
    rw [Heap.get?_update_self f ho (by rw [hf] <;> rfl), hf]
  refine I.write (x := p) (e := p) (by rw [h]; trivial) (.inl rfl) (fun b u hb q => (Heap.get?_update_other _ _ (Ne.symm hb)).trans q) ⟨_, e⟩ ?_
  exact ⟨hz, its', n', r, e⟩
def rSetL : V → V → V → Hp → (Hp → Prop) → Prop := fun o i v H Q => ∃ p xs k j, o = .ref p ∧ i = .int k ∧ H p = some (.lst xs) ∧ ixN xs.length k = some j ∧ Q (upd H p (.lst (xs.set j v)))
theorem set_list : PSet X rSetL := by
  intro pins s σ H o i v ov iv u Q I ro ri rv h
  obtain ⟨p, xs, k, j, rfl, rfl, hp, hj, q⟩ := h
  cases ro
  obtain ⟨t, rfl⟩ := ri
  obtain ⟨its, n, r, ho, hz⟩ := I.lst hp
  obtain ⟨h1, h2, h3, h4⟩ := ixN_seq hj
  have hl := r.length
  have hn := line63
  have I' : Inv X pins σ (upd H p (.lst (xs.set j v))) { s with heap := s.heap.update p (Obj.mapSeq (·.setIfInBounds j u)) } :=
    I.lstUpd hp ho (mapSeq_set its n j u) (r.set rv j) (by rw [List.length_set]; exact hz) s.toks
  by_cases h0 : 0 ≤ k
  · have hk : k.toNat = j := by
      rw [seqIndex_of h0 h4] at h1
      exact Option.some.inj h1
    exact PySem.W.ki_setAt ho h0 (by omega) (by rw [List.size_toArray, ← hl]; exact h4) (by rw [hk]; exact ⟨_, I', q⟩)
  · have hk : (k + (its.toArray.size : Int)).toNat = j := by
      rw [seqIndex_neg (by omega) h3] at h1
      rw [List.size_toArray, ← hl]
      exact Option.some.inj h1
    exact PySem.W.ki_setBack ho (by omega) (by rw [List.size_toArray, ← hl]; exact h3) (by omega) (by rw [hk]; exact ⟨_, I', q⟩)
theorem slice_bounds (lo hi : Option Int) (n : Nat) : (sliceBounds lo hi none n).1 = ((HT.sIx n 0 lo : Nat) : Int) ∧ (sliceBounds lo hi none n).2.1 = ((HT.sIx n n hi : Nat) : Int) ∧ (sliceBounds lo hi none n).2.2 = 1 := by
  refine ⟨?_, ?_, rfl⟩
  · cases lo with
    | none => simp [sliceBounds, HT.sIx]
    | some i =>
      simp only [sliceBounds, HT.sIx, Option.getD_none, show (1 : Int) > 0 by decide, if_true]
      by_cases h : i < 0
      · simp only [h, if_true] <;> omega
      · simp only [h, if_false] <;> omega
  · cases hi with
    | none => simp [sliceBounds, HT.sIx]
    | some i =>
      simp only [sliceBounds, HT.sIx, Option.getD_none, show (1 : Int) > 0 by decide, if_true]
      by_cases h : i < 0
      · simp only [h, if_true] <;> omega
      · simp only [h, if_false] <;> omega
theorem slicePick_cut (its : List Value) (lo hi : Option Int) : slicePick its.toArray lo hi none = ((its.drop (HT.sIx its.length 0 lo)).take (HT.sIx its.length its.length hi - HT.sIx its.length 0 lo)).toArray := by
  obtain ⟨h1, h2, h3⟩ := slice_bounds lo hi its.toArray.size
  unfold slicePick
  rw [h1, h2, h3]
  simp only [sliceRange_one, pick_run, List.size_toArray] <;> rfl
def rSlL (K : PySem.W.Frag) : V → Option Int → Option Int → Hp → VK → Prop := fun x lo hi H Q => ∃ a xs, x = .ref a ∧ SqL K H a xs ∧ ∀ p, H p = none → Q (.ref p) (upd H p (.lst (cutV xs lo hi)))
theorem sl_list : SlR X (rSlL X.K) := by
  intro pins s σ H x v vl vu lo hi sl Q I rx hs pl pu h
  obtain ⟨a, xs, rfl, hx, q⟩ := h
  cases rx
  obtain ⟨its, r, ht, hz⟩ := I.list hx
  have hlen := r.length
  refine ⟨"list", _, slot_list_getitem.lookup, ht.isList.typeIs, ?_⟩
  refine wpAny_getItem_list_slice ht.isList hs pl pu .none (by simp) ?_ (by rw [List.size_toArray] <;> omega)
  rw [slicePick_cut, ← hlen]
  refine ⟨.ref s.heap.objs.size, _, I.laid (t' := s.toks) (o := .lst (cutV xs lo hi)) (fun b ob q => Heap.get?_push_of_some _ q) (Nat.le_refl _) ?_, rfl, q _ (I.hok.fresh (Nat.le_refl _))⟩
  exact ⟨Nat.le_trans (cutV_length xs lo hi) hz, _, 0, (r.drop (HT.sIx xs.length 0 lo)).take (HT.sIx xs.length xs.length hi - HT.sIx xs.length 0 lo), Heap.get?_push_size _ rfl⟩
def flatV : V → Bool
  | .non => true
  | .bl _ => true
  | .int _ => true
  | .str _ => true
  | _ => false
def eqV : V → V → Bool
  | .non, .non => true
  | .bl a, .bl b => a == b
  | .bl a, .int b => (if a then 1 else 0) == b
  | .int a, .bl b => a == (if b then 1 else 0)
  | .int a, .int b => a == b
  | .str a, .str b => a == b
  | _, _ => false
theorem eqAt_V {A : Around} {s : Shared} {y x : V} {u v : Value} (ry : RelV y u) (rx : RelV x v) (fy : flatV y = true) (fx : flatV x = true) : SeqAt.EqAt A s u v (eqV y x) := by
  cases y with
  | non =>
    cases ry
    cases x with
    | non => cases rx; exact SeqAt.EqAt.same _
    | bl b => cases rx; exact SeqAt.EqAt.none_bool b
    | int b => obtain ⟨t, rfl⟩ := rx; exact SeqAt.EqAt.none_int b t
    | str b => obtain ⟨t, rfl⟩ := rx; exact SeqAt.EqAt.none_str b t
    | _ => exact absurd (show false = true from fx) Bool.false_ne_true
  | bl a =>
    cases ry
    cases x with
    | non => cases rx; exact SeqAt.EqAt.bool_none a
    | bl b => cases rx; exact SeqAt.EqAt.bool_bool a b
    | int b => obtain ⟨t, rfl⟩ := rx; exact SeqAt.EqAt.bool_int a b t
    | str b => obtain ⟨t, rfl⟩ := rx; exact SeqAt.EqAt.bool_str a b t
    | _ => exact absurd (show false = true from fx) Bool.false_ne_true
  | int a =>
    obtain ⟨t', rfl⟩ := ry
    cases x with
    | non => cases rx; exact SeqAt.EqAt.int_none a t'
    | bl b => cases rx; exact SeqAt.EqAt.int_bool a t' b
    | int b => obtain ⟨t, rfl⟩ := rx; exact SeqAt.EqAt.int_int a t' b t
    | str b => obtain ⟨t, rfl⟩ := rx; exact SeqAt.EqAt.int_str a t' b t
    | _ => exact absurd (show false = true from fx) Bool.false_ne_true
  | str a =>
    obtain ⟨t', rfl⟩ := ry
    cases x with
    | non => cases rx; exact SeqAt.EqAt.str_none a t'
    | bl b => cases rx; exact SeqAt.EqAt.str_bool a t' b
    | int b => obtain ⟨t, rfl⟩ := rx; exact SeqAt.EqAt.str_int a t' b t
    | str b => obtain ⟨t, rfl⟩ := rx; exact SeqAt.EqAt.str_str a t' b t
    | _ => exact absurd (show false = true from fx) Bool.false_ne_true
  | _ => exact absurd (show false = true from fy) Bool.false_ne_true
def eqU (x : V) (u : Value) : Bool := match u with
  | .none => eqV .non x
  | .bool b => eqV (.bl b) x
  | .int i _ => eqV (.int i) x
  | .str z _ => eqV (.str z) x
  | _ => false
theorem eqU_of {x y : V} {u : Value} (r : RelV y u) (f : flatV y = true) : eqU x u = eqV y x := by
  cases y with
  | non => cases r; rfl
  | bl b => cases r; rfl
  | int i => obtain ⟨t, rfl⟩ := r; rfl
  | str z => obtain ⟨t, rfl⟩ := r; rfl
  | _ => exact absurd (show false = true from f) Bool.false_ne_true
theorem any_eqU {x : V} : ∀ {xs : List V} {us : List Value}, Vals xs us → xs.all flatV = true → us.any (eqU x) = xs.any fun y => eqV y x
  | _, _, .nil, _ => rfl
  | y :: xs, u :: us, .cons r t, f => by
    rw [List.all_cons, Bool.and_eq_true] at f
    rw [List.any_cons, List.any_cons, eqU_of r f.1, any_eqU t f.2]
theorem mem_eqAt {A : Around} {s : Shared} {x : V} {v : Value} (rx : RelV x v) (fx : flatV x = true) : ∀ {xs : List V} {us : List Value}, Vals xs us → xs.all flatV = true → ∀ u ∈ us, SeqAt.EqAt A s u v (eqU x u)
  | _, _, .nil, _ => fun u hu => by cases hu
  | y :: xs, u :: us, .cons r t, f => fun u' hu => by
    rw [List.all_cons, Bool.and_eq_true] at f
    rcases List.mem_cons.mp hu with rfl | hu
    · rw [eqU_of r f.1]; exact eqAt_V r rx f.1 fx
    · exact mem_eqAt rx fx t f.2 u' hu
def inV (x : V) (xs : List V) : Bool := xs.any fun y => eqV y x
def rIn (K : PySem.W.Frag) (neg : Bool) : R2 := fun x y H Q => ∃ p xs, y = .ref p ∧ (SqL K H p xs ∨ SqT K H p xs) ∧ flatV x = true ∧ xs.all flatV = true ∧ Q (.bl (if neg then !inV x xs else inV x xs)) H
theorem op_in_seq : OpR X (compareOp .In) (rIn X.K false) := by
  intro pins s σ H x y v u Q I rx ry h
  obtain ⟨p, xs, rfl, hq, fx, fs, q⟩ := h
  cases ry
  rcases hq with hq | hq
  · obtain ⟨its, r, pl, hz⟩ := I.list hq
    refine SeqAt.in_listAt (eqU x) pl.isList (fun w hw => mem_eqAt rx fx r fs w (by simpa using hw)) ⟨.bl _, H, I, rfl, ?_⟩
    rw [show its.toArray.any (eqU x) = its.any (eqU x) by simp, any_eqU r fs]
    exact q
  · obtain ⟨its, r, pl, hz⟩ := I.tuple hq
    refine SeqAt.in_tupleAt (eqU x) pl (fun w hw => mem_eqAt rx fx r fs w (by simpa using hw)) ⟨.bl _, H, I, rfl, ?_⟩
    rw [show its.toArray.any (eqU x) = its.any (eqU x) by simp, any_eqU r fs]
    exact q
theorem op_notIn_seq : OpR X (compareOp .NotIn) (rIn X.K true) := by
  intro pins s σ H x y v u Q I rx ry h
  obtain ⟨p, xs, rfl, hq, fx, fs, q⟩ := h
  cases ry
  rcases hq with hq | hq
  · obtain ⟨its, r, pl, hz⟩ := I.list hq
    refine SeqAt.notIn_listAt (eqU x) pl.isList (fun w hw => mem_eqAt rx fx r fs w (by simpa using hw)) ⟨.bl _, H, I, rfl, ?_⟩
    rw [show its.toArray.any (eqU x) = its.any (eqU x) by simp, any_eqU r fs]
    exact q
  · obtain ⟨its, r, pl, hz⟩ := I.tuple hq
    refine SeqAt.notIn_tupleAt (eqU x) pl (fun w hw => mem_eqAt rx fx r fs w (by simpa using hw)) ⟨.bl _, H, I, rfl, ?_⟩
    rw [show its.toArray.any (eqU x) = its.any (eqU x) by simp, any_eqU r fs]
    exact q
theorem op_notIn_str : OpR X (compareOp .NotIn) (fun x y H Q => ∃ i j, x = .str i ∧ y = .str j ∧ Q (.bl (!(!(Builtin.Str.occurrences j i 0 j.length 1).isEmpty))) H) := by
  intro pins s σ H x y v u Q I rx ry h
  obtain ⟨i, j, rfl, rfl, q⟩ := h
  obtain ⟨t, rfl⟩ := rx
  obtain ⟨t', rfl⟩ := ry
  exact notIn_str ⟨.bl _, H, I, rfl, q⟩
theorem CallR.or {f : Value} {r r' : List V → Hp → VK → Prop} (h : CallR X f r) (h' : CallR X f r') : CallR X f (fun xs H Q => r xs H Q ∨ r' xs H Q) := by
  intro pins s σ H xs us Q I rs q
  rcases q with q | q
  · exact h pins s σ H xs us Q I rs q
  · exact h' pins s σ H xs us Q I rs q
theorem call_list_of : CallR X (.type "list") (fun xs H Q => ∃ p ys, xs = [.ref p] ∧ (SqL X.K H p ys ∨ SqT X.K H p ys) ∧ ∀ l, H l = none → Q (.ref l) (upd H l (.lst ys))) := by
  intro pins s σ H xs us Q I r h
  obtain ⟨p, ys, rfl, hq, q⟩ := h
  obtain ⟨u, rfl, rx⟩ := vals1 r
  cases rx
  have fin : ∀ (its : List Value), Vals ys its → ys.length ≤ sizeLine → ∀ (h' : Heap) (c' : Nat), (∀ b o', s.heap.get? b = some o' → h'.get? b = some o') →
      h'.get? s.heap.objs.size = some { cls := .type "list", dict := none, data := .seq its.toArray c', slots := #[] } → EP X pins σ Q (.ref s.heap.objs.size) { s with heap := h' } := fun its r' hz h' c' kp e =>
    ⟨.ref s.heap.objs.size, _, I.laid (t' := s.toks) kp (Nat.le_refl _) (show ObjOk X.prog X.w _ h' _ (.lst ys) from ⟨hz, its, c', r', e⟩), rfl, q _ (I.hok.fresh (Nat.le_refl _))⟩
  rcases hq with hq | hq
  · obtain ⟨its, r', pl, hz⟩ := I.list hq
    have hlen := r'.length
    obtain ⟨o, ho, hc, n, hd⟩ := pl.isList
    exact call_list_seq p (.inl rfl) ho hc hd (fun h' c' kp e => fin its r' hz h' c' kp e) (by simp only [List.size_toArray] <;> omega)
  · obtain ⟨its, r', pl, hz⟩ := I.tuple hq
    have hlen := r'.length
    obtain ⟨o, ho, hc, n, hd⟩ := pl
    exact call_list_seq p (.inr rfl) ho hc hd (fun h' c' kp e => fin its r' hz h' c' kp e) (by simp only [List.size_toArray] <;> omega)
def tyV (K : PySem.W.Frag) (T : String) (x : V) (H : Hp) : Prop := match x with
  | .str _ => T = "str"
  | .int _ => T = "int"
  | .ref p => (T = "list" ∧ ∃ xs, SqL K H p xs) ∨ (T = "tuple" ∧ ∃ o, K.lookup p = some o ∧ o.cls = .type "tuple" ∧ o.dict = none) ∨
      (T = "dict" ∧ ((∃ kvs, H p = some (.dK kvs)) ∨ ∃ kvs, H p = some (.dT kvs))) ∨ (T = "set" ∧ ∃ S n, H p = some (.set S n))
  | _ => False
theorem tyV_is {pins : List (Addr × Obj)} {σ : St} {H : Hp} {s : Shared} {T : String} {x : V} {v : Value} (I : Inv X pins σ H s) (r : RelV x v) (ty : tyV X.K T x H) :
    s.TypeIs v T ∧ ∀ a, v = .ref a → ∃ ob, s.heap.get? a = some ob ∧ ob.dict = none := by
  cases x with
  | str z =>
    obtain ⟨t, rfl⟩ := r
    cases (show T = "str" from ty)
    exact ⟨typeIs_str s z t, fun _ e => nomatch e⟩
  | int i =>
    obtain ⟨t, rfl⟩ := r
    cases (show T = "int" from ty)
    exact ⟨typeIs_int s i t, fun _ e => nomatch e⟩
  | ref p =>
    cases r
    rcases ty with ⟨rfl, xs, hq⟩ | ⟨rfl, o, hk, hc, hd⟩ | ⟨rfl, hk⟩ | ⟨rfl, S, n, hk⟩
    · obtain ⟨its, _, pl, _⟩ := I.list hq
      refine ⟨pl.isList.typeIs, fun a e => ?_⟩
      cases e
      obtain ⟨o, n, e, c, hd, _⟩ := pl
      exact ⟨o, e, hd⟩
    · refine ⟨⟨o, I.kIn p o hk, hc⟩, fun a e => ?_⟩
      cases e
      exact ⟨o, I.kIn _ o hk, hd⟩
    · have z : ∃ o, s.heap.get? p = some o ∧ o.ExactDict := by
        rcases hk with ⟨kvs, hk⟩ | ⟨kvs, hk⟩
        · obtain ⟨_, _, _, _, o, _, _, e, ex, _⟩ := I.hok p _ hk
          exact ⟨o, e, ex⟩
        · obtain ⟨_, _, _, _, o, _, _, e, ex, _⟩ := I.hok p _ hk
          exact ⟨o, e, ex⟩
      obtain ⟨o, e, ex⟩ := z
      refine ⟨⟨o, e, ex.1⟩, fun a e2 => ?_⟩
      cases e2
      exact ⟨o, e, ex.2.1⟩
    · obtain ⟨o, _, _, _, e, ex, _⟩ := I.hok p _ hk
      refine ⟨⟨o, e, ex.1⟩, fun a e2 => ?_⟩
      cases e2
      exact ⟨o, e, ex.2.1⟩
  | _ => exact False.elim ty
def tBM0 (K : PySem.W.Frag) (T : String) (r : V → List V → Hp → VK → Prop) (to : TE) : TE := fun σ H Q => to σ H fun x H1 => tyV K T x H1 ∧ r x [] H1 Q
def tBM (K : PySem.W.Frag) (T : String) (r : V → List V → Hp → VK → Prop) (to : TE) (t : TA) : TE := fun σ H Q => to σ H fun x H1 => tyV K T x H1 ∧ t σ H1 fun xs H2 => r x xs H2 Q
variable {o e : Expr} {es : List Expr} {to : TE} {t : TA} {name : Str} {apos cpos : Pos} {T id : String} {r : V → List V → Hp → VK → Prop}
theorem pe_bm0 (pa : PlainAttrs T) (slot : Slot T name id) (hty : typeOf (.builtin id) = pure (.type "method_descriptor")) (hm : MtR X id r) (ho : PE X o to)
    (hbase : attributeBase o name X.env (eval o X.env) = eval o X.env := by rfl) (hline : (apos.endLine == cpos.line) = true := by rfl) : PE X (.Call (.Attribute o name apos) [] [] cpos) (tBM0 X.K T r to) := by
  intro pins s σ H Q I h
  refine wpAny_Call_method0_late hbase hline (thn (ho pins s σ H _ I h) fun v s1 ⟨x, H1, I1, r1, ty, q1⟩ => ?_)
  obtain ⟨h1, h2⟩ := tyV_is I1 r1 ty
  exact ⟨T, id, pa, slot, hty, h1, h2, Calls.callWith_builtin rfl (PySem.evalArgs_none (hm pins s1 σ H1 x [] v [] Q I1 r1 .nil q1))⟩
theorem pe_bm (pa : PlainAttrs T) (slot : Slot T name id) (hty : typeOf (.builtin id) = pure (.type "method_descriptor")) (hm : MtR X id r) (ho : PE X o to) (ha : PA X (e :: es) t)
    (hbase : attributeBase o name X.env (eval o X.env) = eval o X.env := by rfl)
    (hfew : ((backTo cpos (starEach (e :: es) X.env)).all (fun x => !x.1) && (backToKw cpos (keywordEach [] X.env)).all (fun x => x.1.isSome)
      && decide ((e :: es).length + ([] : List Keyword).length + (if ([] : List Keyword).isEmpty then 0 else 1) < 30)) = true := by rfl)
    (hline : (apos.endLine == cpos.line) = true := by rfl) (hs : starEach (e :: es) X.env = (false, eval e X.env) :: starEach es X.env := by rfl) (hplain : (backTo cpos (starEach es X.env)).any (·.1) = false := by rfl) :
    PE X (.Call (.Attribute o name apos) (e :: es) [] cpos) (tBM X.K T r to t) := by
  intro pins s σ H Q I h
  refine wpAny_Call_method_late hbase hfew hline rfl (thn (ho pins s σ H _ I h) fun v s1 ⟨x, H1, I1, r1, ty, q1⟩ => ?_)
  obtain ⟨h1, h2⟩ := tyV_is I1 r1 ty
  refine ⟨T, id, pa, slot, hty, h1, h2, ?_⟩
  have hA := ha cpos pins s1 σ H1 _ I1 q1
  rw [hs] at hA ⊢
  refine Calls.callWith_builtin (by show (false || (backTo cpos (starEach es X.env)).any (·.1)) = false; rw [hplain] <;> rfl) (Calls.evalArgs_plain ?_)
  exact thn hA fun us s2 ⟨vs, H2, I2, r2, q2⟩ => hm pins s2 σ H2 x vs v us Q I2 r1 r2 q2
end
end L2
namespace L2
open PySem PySem.Spec PyProof.Rows
def MtM (X : Cx) (id : String) (r : V → List V → Hp → VK → Prop) : Prop :=
  ∀ (pins : List (Addr × Obj)) (s : Shared) (σ : St) (H : Hp) (x : V) (xs : List V) (v : Value) (us : List Value) (Q : VK), Inv X pins σ H s → RelV x v → Vals xs us → r x xs H Q →
    wpAny (model X.prog X.w) X.A (call (.builtin id) (v :: us)) (EP X pins σ Q) X.xe s
theorem Vals.one : ∀ {x : V} {us : List Value}, Vals [x] us → ∃ u, us = [u] ∧ RelV x u
  | _, _, .cons r .nil => ⟨_, rfl, r⟩
theorem Vals.zero : ∀ {us : List Value}, Vals [] us → us = []
  | _, .nil => rfl
section
variable {X : Cx} {pins : List (Addr × Obj)} {σ : St} {H : Hp} {s : Shared} {l b : Addr} {xs ys zs : List V}
theorem Inv.lset {its its' : List Value} {n : Nat} {f : Array Value → Array Value} {t' : Nat} (I : Inv X pins σ H s) (hH : H l = some (.lst xs))
    (e : s.heap.get? l = some { cls := .type "list", data := .seq its.toArray n }) (hf : f its.toArray = its'.toArray) (hv : Vals ys its') (hz : ys.length ≤ sizeLine) :
    Inv X pins σ (upd H l (.lst ys)) { s with heap := s.heap.update l (Obj.mapSeq f), toks := t' } := by
  have q := PySem.IsL.update e f
  rw [hf] at q
  refine I.write (x := l) (e := l) (by rw [hH]; exact trivial) (.inl rfl) (fun b' u hb hu => (Heap.get?_update_other s.heap (Obj.mapSeq f) (Ne.symm hb)).trans hu) ⟨_, q⟩ ?_
  exact ⟨hz, its', _, hv, q⟩
theorem Inv.lnew {its : List Value} {t' : Nat} (I : Inv X pins σ H s) (hv : Vals ys its) (hz : ys.length ≤ sizeLine) :
    Inv X pins σ (upd H s.heap.objs.size (.lst ys)) { s with heap := s.heap.push { cls := .type "list", data := .seq its.toArray }, toks := t' } :=
  I.laid (fun _ _ q => Heap.get?_push_of_some _ q) (Nat.le_refl _) ⟨hz, its, 0, hv, Heap.get?_push_size _ rfl⟩
theorem Inv.fresh (I : Inv X pins σ H s) : H s.heap.objs.size = none := I.hok.fresh (Nat.le_refl _)
theorem Inv.lstM (I : Inv X pins σ H s) (hH : H l = some (.lst xs)) : xs.length ≤ sizeLine ∧ ∃ (its : List Value) (n : Nat), Vals xs its ∧ xs.length = its.length ∧ s.heap.get? l = some { cls := .type "list", data := .seq its.toArray n } := by
  obtain ⟨z, its, n, r, e⟩ := I.hok l _ hH
  exact ⟨z, its, n, r, r.length, e⟩
theorem notLongL {n : Nat} (h : n ≤ sizeLine) : Builtin.List.listTooLong n = false := by
  unfold Builtin.List.listTooLong
  exact decide_eq_false (by omega)
end
section
variable {X : Cx}
def rAppend : V → List V → Hp → VK → Prop := fun x vs H Q => ∃ l xs y, x = .ref l ∧ vs = [y] ∧ H l = some (.lst xs) ∧ xs.length < sizeLine ∧ Q .non (upd H l (.lst (xs ++ [y])))
theorem mt_append : MtM X "list.append" rAppend := by
  intro pins s σ H x vs v us Q I rx rv h
  obtain ⟨l, xs, y, rfl, rfl, hH, hz, q⟩ := h
  cases rx
  obtain ⟨u, rfl, ru⟩ := rv.one
  obtain ⟨z, its, n, r, hl, e⟩ := I.lstM hH
  refine call_meets F.slot_list_append ⟨_, e, rfl⟩ F.entry_list_append (F.args_list_append_2 _ _) (PySem.list_append l its.toArray n u (by rw [List.size_toArray]; omega)) ⟨e, ?_⟩
  refine ⟨.non, _, I.lset (its' := its ++ [u]) hH e (by simp) (r.append (.cons ru .nil)) ?_, rfl, q⟩
  rw [List.length_append, List.length_singleton]
  omega
def rExtend : V → List V → Hp → VK → Prop := fun x vs H Q => ∃ l b xs zs, x = .ref l ∧ vs = [.ref b] ∧ H l = some (.lst xs) ∧ H b = some (.lst zs) ∧ xs.length + zs.length ≤ sizeLine ∧ Q .non (upd H l (.lst (xs ++ zs)))
theorem mt_extend : MtM X "list.extend" rExtend := by
  intro pins s σ H x vs v us Q I rx rv h
  obtain ⟨l, b, xs, zs, rfl, rfl, hH, hB, hz, q⟩ := h
  cases rx
  obtain ⟨u, rfl, ru⟩ := rv.one
  cases ru
  obtain ⟨z, its, n, r, hl, e⟩ := I.lstM hH
  obtain ⟨z2, its2, n2, r2, hl2, e2⟩ := I.lstM hB
  have hsz : its.toArray.size + its2.toArray.size ≤ sizeLine := by rw [List.size_toArray, List.size_toArray]; omega
  have hlong : ¬ (!its.toArray.isEmpty && Builtin.List.listTooLong (its.toArray.size + its2.toArray.size)) = true := by
    rw [notLongL hsz, Bool.and_false]
    exact Bool.false_ne_true
  refine call_meets F.slot_list_extend ⟨_, e, rfl⟩ F.entry_list_extend (F.args_list_extend_2 _ _)
    (AutoSeq1.list_extend_list_list_0 l its.toArray n b its2.toArray n2 hlong (by rw [List.size_toArray]; omega) (by omega)) ⟨e, e2, ?_⟩
  refine ⟨.non, _, I.lset (its' := its ++ its2) hH e (by simp) (r.append r2) ?_, rfl, q⟩
  rw [List.length_append]
  omega
def rClear : V → List V → Hp → VK → Prop := fun x vs H Q => ∃ l xs, x = .ref l ∧ vs = [] ∧ H l = some (.lst xs) ∧ Q .non (upd H l (.lst []))
theorem mt_clear : MtM X "list.clear" rClear := by
  intro pins s σ H x vs v us Q I rx rv h
  obtain ⟨l, xs, rfl, rfl, hH, q⟩ := h
  cases rx
  have hus := rv.zero
  subst hus
  obtain ⟨z, its, n, r, hl, e⟩ := I.lstM hH
  refine call_meets F.slot_list_clear ⟨_, e, rfl⟩ F.entry_list_clear (F.args_list_clear_1 _) (AutoSeq1.list_clear_list_0 l its.toArray n (by rw [List.size_toArray]; omega)) ⟨e, ?_⟩
  exact ⟨.non, _, I.lset (its' := []) (ys := []) hH e rfl .nil (Nat.zero_le _), rfl, q⟩
def rCat : R2 := fun x y H Q => ∃ l b xs zs, x = .ref l ∧ y = .ref b ∧ H l = some (.lst xs) ∧ H b = some (.lst zs) ∧ xs.length + zs.length ≤ sizeLine ∧ ∀ p, H p = none → Q (.ref p) (upd H p (.lst (xs ++ zs)))
theorem op_cat : OpR X (binaryOp .Add) rCat := by
  intro pins s σ H x y v u Q I rx ry h
  obtain ⟨l, b, xs, zs, rfl, rfl, hH, hB, hz, q⟩ := h
  cases rx
  cases ry
  obtain ⟨z, its, n, r, hl, e⟩ := I.lstM hH
  obtain ⟨z2, its2, n2, r2, hl2, e2⟩ := I.lstM hB
  refine PySem.P.add_list e e2 ?_ (by rw [List.size_toArray, List.size_toArray]; omega)
  have ea : its.toArray ++ its2.toArray = (its ++ its2).toArray := by simp
  rw [ea]
  exact ⟨.ref _, _, I.lnew (t' := s.toks) (r.append r2) (by rw [List.length_append]; omega), rfl, q _ I.fresh⟩
end
section
variable {prog : Program} {w : World} {A : Around} {E : Value → Shared → Prop} {s : Shared}
end
section
variable {X : Cx}
end
end L2
namespace L2
open PySem PySem.Spec PyProof.Rows
section
variable {κ : Type} [DecidableEq κ]
def valV (kvs : List (κ × V)) (k : κ) : Option V := (kvs.find? fun kv => decide (kv.1 = k)).map (·.2)
def putK (kvs : List (κ × V)) (k : κ) (v : V) : List (κ × V) :=
  if (kvs.any fun kv => decide (kv.1 = k)) = true then kvs.map (fun kv => if kv.1 = k then (kv.1, v) else kv) else kvs ++ [(k, v)]
theorem valV_pos {p : κ × V} {r : List (κ × V)} {k : κ} (e : p.1 = k) : valV (p :: r) k = some p.2 := by simp [valV, List.find?_cons, e]
theorem valV_neg {p : κ × V} {r : List (κ × V)} {k : κ} (e : ¬ p.1 = k) : valV (p :: r) k = valV r k := by simp [valV, List.find?_cons, e]
theorem valV_any (k : κ) : ∀ kvs : List (κ × V), (kvs.any fun kv => decide (kv.1 = k)) = (valV kvs k).isSome
  | [] => rfl
  | p :: r => by
    rw [List.any_cons]
    by_cases e : p.1 = k
    · simp only [valV_pos e, decide_eq_true e, Bool.true_or, Option.isSome_some]
    · rw [valV_neg e, decide_eq_false e, Bool.false_or]; exact valV_any k r
theorem length_putK (kvs : List (κ × V)) (k : κ) (v : V) : (putK kvs k v).length ≤ kvs.length + 1 := by
  unfold putK
  split
  · rw [List.length_map]; omega
  · rw [List.length_append, List.length_cons, List.length_nil]; omega
theorem putK_new {kvs : List (κ × V)} {k : κ} (v : V) (h : valV kvs k = none) : putK kvs k v = kvs ++ [(k, v)] := by
  unfold putK
  rw [valV_any, h]
  exact if_neg (by decide)
theorem RelO.isSome_eq {o : Option V} {u : Option Value} (r : RelO o u) : o.isSome = u.isSome := by
  cases o with
  | none => cases u with
    | none => rfl
    | some _ => exact (show False from r).elim
  | some _ => cases u with
    | none => exact (show False from r).elim
    | some _ => rfl
theorem RelO.getD {o : Option V} {u : Option Value} {d : V} {d' : Value} (r : RelO o u) (rd : RelV d d') : RelV (o.getD d) (u.getD d') := by
  cases o with
  | none => cases u with
    | none => exact rd
    | some _ => exact (show False from r).elim
  | some _ => cases u with
    | none => exact (show False from r).elim
    | some _ => exact r
theorem KV.val {kvs : List (κ × V)} {vs : List (κ × Value)} (r : KV kvs vs) (k : κ) : RelO (valV kvs k) (valueAt vs k) := by
  unfold KV at r
  induction r with
  | nil => exact True.intro
  | @cons p q ps qs h t ih =>
    obtain ⟨h1, h2⟩ := h
    by_cases e : p.1 = k
    · have e' : q.1 = k := h1.symm.trans e
      have b : valueAt (q :: qs) k = some q.2 := by simp [valueAt, List.find?_cons, e']
      rw [valV_pos e, b]; exact h2
    · have e' : ¬ q.1 = k := fun z => e (h1.trans z)
      have b : valueAt (q :: qs) k = valueAt qs k := by simp [valueAt, List.find?_cons, e']
      rw [valV_neg e, b]; exact ih
theorem KV.any {kvs : List (κ × V)} {vs : List (κ × Value)} (r : KV kvs vs) (k : κ) : (kvs.any fun kv => decide (kv.1 = k)) = vs.any fun kv => decide (kv.1 = k) := by
  unfold KV at r
  induction r with
  | nil => rfl
  | cons h t ih => rw [List.any_cons, List.any_cons, ih, h.1]
theorem KV.repl {kvs : List (κ × V)} {vs : List (κ × Value)} (r : KV kvs vs) (k : κ) {y : V} {u : Value} (ry : RelV y u) :
    KV (kvs.map fun kv => if kv.1 = k then (kv.1, y) else kv) (vs.map fun kv => if kv.1 = k then (kv.1, u) else kv) := by
  unfold KV at r ⊢
  induction r with
  | nil => exact .nil
  | @cons p q ps qs h t ih =>
    rw [List.map_cons, List.map_cons]
    refine .cons ?_ ih
    obtain ⟨h1, h2⟩ := h
    by_cases e : p.1 = k
    · rw [if_pos e, if_pos (h1.symm.trans e)]; exact ⟨h1, ry⟩
    · rw [if_neg e, if_neg (fun z => e (h1.trans z))]; exact ⟨h1, h2⟩
theorem KV.put {kvs : List (κ × V)} {vs : List (κ × Value)} (r : KV kvs vs) (k : κ) {y : V} {u : Value} (ry : RelV y u) : KV (putK kvs k y) (stored vs k u) := by
  unfold putK stored
  rw [r.any k]
  by_cases e : (vs.any fun kv => decide (kv.1 = k)) = true
  · rw [if_pos e, if_pos e]; exact r.repl k ry
  · rw [if_neg e, if_neg e]; exact Paired.snoc r ⟨rfl, ry⟩
theorem KV.keys {kvs : List (κ × V)} {vs : List (κ × Value)} (r : KV kvs vs) : kvs.map (·.1) = vs.map (·.1) := by
  unfold KV at r
  induction r with
  | nil => rfl
  | cons h t ih => rw [List.map_cons, List.map_cons, ih, h.1]
theorem KV.length {kvs : List (κ × V)} {vs : List (κ × Value)} (r : KV kvs vs) : kvs.length = vs.length := Paired.length r
end
theorem kV_is {P : Program} {w : World} {k : Key} {u : Value} (r : RelV (kV k) u) : (mixKind P w).is k u = true := by
  cases k with
  | inl i => obtain ⟨t, e⟩ := (show ∃ t, u = Value.int i t from r); subst e; exact mixKind_int P w i t
  | inr x => obtain ⟨t, e⟩ := (show ∃ t, u = Value.str x t from r); subst e; exact mixKind_str P w x t
theorem items_are {P : Program} {w : World} : ∀ {ks : List Key} {us : List Value}, Vals (ks.map kV) us → ItemsAre (mixKind P w) ks us
  | [], _, r => by rw [List.map_nil] at r; cases r; exact .nil
  | k :: ks, _, r => by
    rw [List.map_cons] at r
    cases r with
    | cons h t => exact .cons (kV_is h) (items_are t)
abbrev KT (H : Hp) : List (List Key × V) → List (List Key × Addr × Value) → Prop := Paired fun p q => p.1 = q.1 ∧ H q.2.1 = some (.tup (p.1.map kV)) ∧ RelV p.2 q.2.2
theorem KT.val {H : Hp} {kvs : List (List Key × V)} {xs : List (List Key × Addr × Value)} (r : KT H kvs xs) (k : List Key) : RelO (valV kvs k) ((atKey xs k).map (·.2)) := by
  induction r with
  | nil => exact True.intro
  | @cons p q ps qs h t ih =>
    obtain ⟨h1, _, h2⟩ := h
    by_cases e : p.1 = k
    · have e' : q.1 = k := h1.symm.trans e
      have b : atKey (q :: qs) k = some q.2 := by simp [atKey, List.find?_cons, e']
      rw [valV_pos e, b]; exact h2
    · have e' : ¬ q.1 = k := fun z => e (h1.trans z)
      have b : atKey (q :: qs) k = atKey qs k := by simp [atKey, List.find?_cons, e']
      rw [valV_neg e, b]; exact ih
theorem KT.repl {H : Hp} {kvs : List (List Key × V)} {xs : List (List Key × Addr × Value)} (r : KT H kvs xs) (k : List Key) {y : V} {u : Value} (ry : RelV y u) :
    KT H (kvs.map fun kv => if kv.1 = k then (kv.1, y) else kv) (xs.map (putAt k u)) := by
  induction r with
  | nil => exact .nil
  | @cons p q ps qs h t ih =>
    rw [List.map_cons, List.map_cons]
    refine .cons ?_ ih
    obtain ⟨h1, h2, h3⟩ := h
    unfold putAt
    by_cases e : p.1 = k
    · rw [if_pos e, if_pos (h1.symm.trans e)]; exact ⟨h1, h2, ry⟩
    · rw [if_neg e, if_neg (fun z => e (h1.trans z))]; exact ⟨h1, h2, h3⟩
theorem KT.put {H : Hp} {kvs : List (List Key × V)} {xs : List (List Key × Addr × Value)} (r : KT H kvs xs) (k : List Key) {b : Addr} {y : V} {u : Value} (hb : H b = some (.tup (k.map kV))) (ry : RelV y u) :
    KT H (putK kvs k y) (storedH xs k b u) := by
  have e : (kvs.any fun kv => decide (kv.1 = k)) = (atKey xs k).isSome := by
    rw [valV_any, (r.val k).isSome_eq, Option.isSome_map]
  unfold putK storedH
  rw [e]
  by_cases q : (atKey xs k).isSome = true
  · rw [if_pos q, if_pos q]; exact r.repl k ry
  · rw [if_neg q, if_neg q]; exact Paired.snoc r ⟨rfl, hb, ry⟩
theorem KT.keeps {H H' : Hp} {kvs : List (List Key × V)} {xs : List (List Key × Addr × Value)} (r : KT H kvs xs) (ht : ∀ b ys, H b = some (.tup ys) → H' b = some (.tup ys)) : KT H' kvs xs :=
  Paired.mapP r fun _ _ z => ⟨z.1, ht _ _ z.2.1, z.2.2⟩
section
variable {P : Program} {w : World} {H : Hp} {h : Heap} {a : Addr}
theorem rd_of {u : HO} (ok : HOk P w H h) (e : Rd H a u) : ObjOk P w H h a u := e.ok ok
theorem dk_rd {kvs : List (Key × V)} (ok : HOk P w H h) (e : Rd H a (.dK kvs)) : kvs.length ≤ sizeLine ∧ (a == sysModules) = false ∧ ∃ vs, KV kvs vs ∧ h.DictOf (mixKind P w) a vs :=
  show ObjOk P w H h a (.dK kvs) from rd_of ok e
theorem dk_of {kvs : List (Key × V)} (ok : HOk P w H h) (e : H a = some (.dK kvs)) : kvs.length ≤ sizeLine ∧ (a == sysModules) = false ∧ ∃ vs, KV kvs vs ∧ h.DictOf (mixKind P w) a vs := dk_rd ok (.inl e)
theorem key_of {ks : List Key} (ok : HOk P w H h) (e : H a = some (.tup (ks.map kV))) : (tupleKind (mixKind P w)).is h ks a := by
  obtain ⟨_, its, r, o, h1, h2, n, h3⟩ := (show ObjOk P w H h a (.tup (ks.map kV)) from ok a _ e)
  exact ⟨o, its.toArray, n, h1, h2, h3, by simpa using items_are r⟩
theorem dt_rd {kvs : List (List Key × V)} (ok : HOk P w H h) (e : Rd H a (.dT kvs)) : kvs.length ≤ sizeLine ∧ (a == sysModules) = false ∧
    ∃ xs, KT H kvs xs ∧ h.DictOfH (tupleKind (mixKind P w)) a xs := by
  obtain ⟨z, y, xs, r, o, es, ep, h1, h2, h3, h4, h5⟩ := (show ObjOk P w H h a (.dT kvs) from rd_of ok e)
  refine ⟨z, y, xs, r, o, es, ep, h1, h2, h3, h4, fun x hx => ?_, h5⟩
  have all : ∀ {l : List (List Key × V)} {m : List (List Key × Addr × Value)}, KT H l m → ∀ x ∈ m, (tupleKind (mixKind P w)).is h x.1 x.2.1 := by
    intro l m q
    induction q with
    | nil => intro x hx; exact nomatch hx
    | @cons p q ps qs hq t ih =>
      intro x hx
      rcases List.mem_cons.mp hx with e | hx
      · subst e
        exact key_of ok (by rw [← hq.1]; exact hq.2.1)
      · exact ih x hx
  exact all r x hx
theorem dt_of {kvs : List (List Key × V)} (ok : HOk P w H h) (e : H a = some (.dT kvs)) : kvs.length ≤ sizeLine ∧ (a == sysModules) = false ∧
    ∃ xs, KT H kvs xs ∧ h.DictOfH (tupleKind (mixKind P w)) a xs := dt_rd ok (.inl e)
end
def DGet (H : Hp) (a : Addr) (y : V) (r : Option V) : Prop :=
  (∃ kvs k, Rd H a (.dK kvs) ∧ y = kV k ∧ r = valV kvs k) ∨ ∃ kvs k b, Rd H a (.dT kvs) ∧ y = .ref b ∧ H b = some (.tup (k.map kV)) ∧ r = valV kvs k
def DPut (H : Hp) (a : Addr) (y v : V) (H' : Hp) : Prop :=
  (∃ kvs k, H a = some (.dK kvs) ∧ y = kV k ∧ kvs.length < sizeLine ∧ H' = upd H a (.dK (putK kvs k v))) ∨
  ∃ kvs k b, H a = some (.dT kvs) ∧ y = .ref b ∧ H b = some (.tup (k.map kV)) ∧ kvs.length < sizeLine ∧ H' = upd H a (.dT (putK kvs k v))
theorem DPut.k {H : Hp} {a : Addr} {kvs : List (Key × V)} {k : Key} {v : V} (e : H a = some (.dK kvs)) (hl : kvs.length < sizeLine) : DPut H a (kV k) v (upd H a (.dK (putK kvs k v))) := .inl ⟨kvs, k, e, rfl, hl, rfl⟩
section
variable {X : Cx} {pins : List (Addr × Obj)} {σ : St} {H : Hp} {s : Shared} {a : Addr} {y v : V} {u r : Value} {o : Option V} {A : Around} {E : Value → Shared → Prop}
theorem Inv.big (I : Inv X pins σ H s) : sysModules < s.heap.objs.size := by
  have h : mainGlobals < s.heap.objs.size := (I.mod.glob.keeps I.bk).lt
  exact Nat.lt_trans (by decide) h
theorem d_getItem {Q : Value → Shared → Prop} (hu : A.units + 1 < cLine) (I : Inv X pins σ H s) (g : DGet H a y (some v)) (ry : RelV y u) (h : ∀ w' s', Inv X pins σ H s' → RelV v w' → Q w' s') :
    wpAny (model X.prog X.w) A (getItem (.ref a) u) Q E s := by
  rcases g with ⟨kvs, k, e, ey, l⟩ | ⟨kvs, k, b, e, ey, eb, l⟩
  · subst ey
    obtain ⟨z, hd, vs, rel, dd⟩ := dk_rd I.hok e
    obtain ⟨w', hw, rw'⟩ := RelO.some_of (v := v) (o := valueAt vs k) (by rw [l]; exact rel.val k)
    exact wpAny_getItem_of (kV_is ry) dd.mapOf hw (h w' _ (I.tok _) rw')
  · subst ey
    cases (show u = Value.ref b from ry)
    obtain ⟨z, hd, xs, rel, dd⟩ := dt_rd I.hok e
    obtain ⟨w', hw, rw'⟩ := RelO.some_of (v := v) (o := (atKey xs k).map (·.2)) (by rw [l]; exact rel.val k)
    obtain ⟨p, hp, hp2⟩ := Option.map_eq_some_iff.mp hw
    refine wpAny_getItem_heap (tupleKind_room_in1 hu) (key_of I.hok eb) dd hp ?_
    rw [hp2]
    exact h w' _ (I.tok _) rw'
theorem d_in {Q : Value → Shared → Prop} (hu : A.units + 1 < cLine) (I : Inv X pins σ H s) (g : DGet H a y o) (ry : RelV y u) (h : ∀ s', Inv X pins σ H s' → Q (.bool o.isSome) s') :
    wpAny (model X.prog X.w) A (compareOp .In u (.ref a)) Q E s := by
  rcases g with ⟨kvs, k, e, ey, l⟩ | ⟨kvs, k, b, e, ey, eb, l⟩
  · subst ey
    obtain ⟨z, hd, vs, rel, dd⟩ := dk_rd I.hok e
    refine wpAny_in_of (kV_is ry) hd dd.mapOf ?_
    rw [← (rel.val k).isSome_eq, ← l]
    exact h _ (I.tok _)
  · subst ey
    cases (show u = Value.ref b from ry)
    obtain ⟨z, hd, xs, rel, dd⟩ := dt_rd I.hok e
    refine wpAny_in_heap (tupleKind_room_in1 hu) (key_of I.hok eb) hd dd ?_
    have q := (rel.val k).isSome_eq
    rw [Option.isSome_map] at q
    rw [← q, ← l]
    exact h _ (I.tok _)
theorem d_notIn {Q : Value → Shared → Prop} (hu : A.units + 1 < cLine) (I : Inv X pins σ H s) (g : DGet H a y o) (ry : RelV y u) (h : ∀ s', Inv X pins σ H s' → Q (.bool (!o.isSome)) s') :
    wpAny (model X.prog X.w) A (compareOp .NotIn u (.ref a)) Q E s := by
  rcases g with ⟨kvs, k, e, ey, l⟩ | ⟨kvs, k, b, e, ey, eb, l⟩
  · subst ey
    obtain ⟨z, hd, vs, rel, dd⟩ := dk_rd I.hok e
    refine wpAny_notIn_of (kV_is ry) hd dd.mapOf ?_
    rw [← (rel.val k).isSome_eq, ← l]
    exact h _ (I.tok _)
  · subst ey
    cases (show u = Value.ref b from ry)
    obtain ⟨z, hd, xs, rel, dd⟩ := dt_rd I.hok e
    refine wpAny_notIn_heap (tupleKind_room_in1 hu) (key_of I.hok eb) hd dd ?_
    have q := (rel.val k).isSome_eq
    rw [Option.isSome_map] at q
    rw [← q, ← l]
    exact h _ (I.tok _)
theorem d_write {h' : Heap} {t' : Nat} {ob : HO} (I : Inv X pins σ H s) (mu : Mut (H a)) (hs : Heap.SameBut a s.heap h') (he : ∃ q, h'.get? a = some q) (new : ObjOk X.prog X.w (upd H a ob) h' a ob) :
    Inv X pins σ (upd H a ob) { s with heap := h', toks := t' } :=
  I.write (x := a) (e := a) mu (.inl rfl) (fun b q hb z => (hs.2 b hb).trans z) he new
theorem dk_new {P : Program} {w : World} {H' : Hp} {h' : Heap} {kvs : List (Key × V)} {vs : List (Key × Value)} (z : kvs.length ≤ sizeLine) (hd : (a == sysModules) = false) (rel : KV kvs vs) (dd : h'.DictOf (mixKind P w) a vs) :
    ObjOk P w H' h' a (.dK kvs) := ⟨z, hd, vs, rel, dd⟩
theorem d_setItem {H' : Hp} {Q : Unit → Shared → Prop} (hu : A.units + 1 < cLine) (I : Inv X pins σ H s) (g : DPut H a y v H') (ry : RelV y u) (rv : RelV v r) (h : ∀ s', Inv X pins σ H' s' → Q () s') :
    wpAny (model X.prog X.w) A (setItem (.ref a) u r) Q E s := by
  rcases g with ⟨kvs, k, e, ey, l, eH⟩ | ⟨kvs, k, b, e, ey, eb, l, eH⟩
  · subst ey eH
    obtain ⟨z, hd, vs, rel, dd⟩ := dk_of I.hok e
    have hz : vs.length ≤ sizeLine := by rw [← rel.length]; exact z
    have hl : (putK kvs k v).length ≤ sizeLine := by have := length_putK kvs k v; omega
    refine wpAny_setItem_pairs (hsz := hz) (kV_is ry) dd fun h' dd' hs => h _ ?_
    have he : ∃ q, h'.get? a = some q := let ⟨q, _, _, hq, _⟩ := dd'; ⟨q, hq⟩
    exact d_write I (by rw [e]; exact True.intro) hs he (dk_new hl hd (rel.put k rv) dd')
  · subst ey eH
    cases (show u = Value.ref b from ry)
    obtain ⟨z, hd, xs, rel, dd⟩ := dt_of I.hok e
    have hz : xs.length ≤ sizeLine := by rw [← Paired.length rel]; exact z
    have hl : (putK kvs k v).length ≤ sizeLine := by have := length_putK kvs k v; omega
    refine wpAny_setItem_heap (hsz := hz) (tupleKind_room_in1 hu) (key_of I.hok eb) dd fun h' dd' hs => h _ ?_
    obtain ⟨q, es, ep, hq, h2, h3, h4, _, h5⟩ := dd'
    refine d_write I (by rw [e]; exact True.intro) hs ⟨q, hq⟩ ⟨hl, hd, _, (rel.put k eb rv).keeps fun c ys ec => ?_, q, es, ep, hq, h2, h3, h4, h5⟩
    rw [upd_ne (ne_of ec e (fun z => nomatch z))]
    exact ec
end
section
variable {X : Cx} {pins : List (Addr × Obj)} {σ : St} {H : Hp} {s : Shared} {a : Addr} {kvs : List (Key × V)} {k : Key} {u : Value} {A : Around} {E : Value → Shared → Prop}
theorem d_len {Q : Value → Shared → Prop} (I : Inv X pins σ H s) (e : Rd H a (.dK kvs)) (h : ∀ t s', Inv X pins σ H s' → Q (.int kvs.length t) s') : wpAny (model X.prog X.w) A (call (.builtin "len") [.ref a]) Q E s := by
  obtain ⟨z, hd, vs, rel, dd⟩ := dk_rd I.hok e
  refine call_len_dict hd dd (by rw [← rel.length]; rw [sizeLine_eq] at z; omega) ?_
  rw [← rel.length]
  exact h _ _ (I.tok _)
end
theorem dict_typeIs {X : Cx} {pins : List (Addr × Obj)} {σ : St} {H : Hp} {s : Shared} {a : Addr} {y : V} {o : Option V} (I : Inv X pins σ H s) (g : DGet H a y o) : s.TypeIs (.ref a) "dict" := by
  rcases g with ⟨kvs, k, e, _, _⟩ | ⟨kvs, k, b, e, _, _, _⟩
  · obtain ⟨_, _, vs, _, dd⟩ := dk_rd I.hok e
    exact dd.typeIs
  · obtain ⟨_, _, xs, _, dd⟩ := dt_rd I.hok e
    exact dd.typeIs
section
variable {X : Cx} {o i e value : Expr} {pos pos' tpos : Pos} {td ty tv : TE}
end
theorem dk_empty {P : Program} {w : World} {H : Hp} (h : Heap) (hb : sysModules < h.objs.size) : ObjOk P w H (h.push { cls := .type "dict", data := .dict #[] }) h.objs.size (.dK []) :=
  ⟨Nat.zero_le _, beq_eq_false_iff_ne.mpr (Ne.symm (Nat.ne_of_lt hb)), [], .nil, Heap.DictOf.new h⟩
def tDNewK : TE := fun _ H Q => ∀ p, H p = none → Q (.ref p) (upd H p (.dK []))
section
variable {X : Cx} {pos : Pos}
theorem pe_dnewK : PE X (.Dict [] [] pos) tDNewK := fun pins s σ H Q I h =>
  wpAny_Dict_empty ⟨.ref s.heap.objs.size, _, I.laid (a := s.heap.objs.size) (o := .dK []) (t' := s.toks) (fun _ _ q => Heap.get?_push_of_some _ q) (Nat.le_refl _) (dk_empty s.heap I.big), rfl, h _ (I.hok.fresh (Nat.le_refl _))⟩
end
def tPairs : List (TE × TE) → St → Hp → (List (V × V) → Hp → Prop) → Prop
  | [], _, H, Q => Q [] H
  | (tk, tv) :: r, σ, H, Q => tk σ H fun x H1 => tv σ H1 fun y H2 => tPairs r σ H2 fun ps H3 => Q ((x, y) :: ps) H3
abbrev VV : List (V × V) → List (Value × Value) → Prop := Paired fun p q => RelV p.1 q.1 ∧ RelV p.2 q.2
def PPs (X : Cx) (pos : Pos) (keys : List (Option Expr)) (values : List Expr) (trs : List (TE × TE)) : Prop :=
  ∀ (pins : List (Addr × Obj)) (s : Shared) (σ : St) (H : Hp) (Q : List (V × V) → Hp → Prop), Inv X pins σ H s → tPairs trs σ H Q →
    wpAny (model X.prog X.w) X.A (evalPairs (pairTrees keys values X.env pos)) (fun vs s' => ∃ ps H', Inv X pins σ H' s' ∧ VV ps vs ∧ Q ps H') X.xe s
structure M1 (X : Cx) (o : Expr) (m : Str) (apos : Pos) (e : Expr) (cpos : Pos) : Prop where
  base : attributeBase o m X.env (eval o X.env) = eval o X.env
  few : ((backTo cpos (starEach [e] X.env)).all (fun x => !x.1) && (backToKw cpos (keywordEach [] X.env)).all (fun x => x.1.isSome)
    && decide (([e] : List Expr).length + ([] : List Keyword).length + (if ([] : List Keyword).isEmpty then 0 else 1) < 30)) = true
  line : (apos.endLine == cpos.line) = true
  trees : backTo cpos (starEach [e] X.env) = [(false, eval e X.env)]
structure M2 (X : Cx) (o : Expr) (m : Str) (apos : Pos) (e f : Expr) (cpos : Pos) : Prop where
  base : attributeBase o m X.env (eval o X.env) = eval o X.env
  few : ((backTo cpos (starEach [e, f] X.env)).all (fun x => !x.1) && (backToKw cpos (keywordEach [] X.env)).all (fun x => x.1.isSome)
    && decide (([e, f] : List Expr).length + ([] : List Keyword).length + (if ([] : List Keyword).isEmpty then 0 else 1) < 30)) = true
  line : (apos.endLine == cpos.line) = true
  trees : backTo cpos (starEach [e, f] X.env) = [(false, eval e X.env), (false, eval f X.env)]
def IsD (H : Hp) (a : Addr) : Prop := (∃ kvs, Rd H a (.dK kvs)) ∨ ∃ kvs, Rd H a (.dT kvs)
theorem isD_at {X : Cx} {pins : List (Addr × Obj)} {σ : St} {H : Hp} {s : Shared} {a : Addr} (I : Inv X pins σ H s) (d : IsD H a) :
    s.TypeIs (.ref a) "dict" ∧ (∀ b, Value.ref a = .ref b → ∃ ob, s.heap.get? b = some ob ∧ ob.dict = none) ∧ (a == sysModules) = false := by
  rcases d with ⟨kvs, e⟩ | ⟨kvs, e⟩
  · obtain ⟨_, hd, vs, _, dd⟩ := dk_rd I.hok e
    refine ⟨dd.typeIs, fun b q => ?_, hd⟩
    cases q
    obtain ⟨ob, _, _, h1, h2, _⟩ := dd
    exact ⟨ob, h1, h2.2.1⟩
  · obtain ⟨_, hd, xs, _, dd⟩ := dt_rd I.hok e
    refine ⟨dd.typeIs, fun b q => ?_, hd⟩
    cases q
    obtain ⟨ob, _, _, h1, h2, _⟩ := dd
    exact ⟨ob, h1, h2.2.1⟩
section
variable {X : Cx} {pins : List (Addr × Obj)} {σ : St} {H : Hp} {s : Shared} {a : Addr} {y d : V} {u r : Value} {o : Option V} {A : Around} {E : Value → Shared → Prop}
theorem d_get1 {Q : Value → Shared → Prop} (hu : A.units + 1 < cLine) (I : Inv X pins σ H s) (g : DGet H a y o) (ry : RelV y u) (h : ∀ w' s', Inv X pins σ H s' → RelV (o.getD .non) w' → Q w' s') :
    wpAny (model X.prog X.w) A (call (.builtin "dict.get") [.ref a, u]) Q E s := by
  rcases g with ⟨kvs, k, e, ey, l⟩ | ⟨kvs, k, b, e, ey, eb, l⟩
  · subst ey
    obtain ⟨z, hd, vs, rel, dd⟩ := dk_rd I.hok e
    refine call_meetsIn PySem.F.slot_dict_get dd.typeIs PySem.F.entry_dict_get (PySem.F.args_dict_get_2 _ _) (meets_dict_get (mixKind X.prog X.w) a (kV_is ry) hd) ⟨_, dd.mapOf, h _ _ (I.tok _) ?_⟩
    rw [l]
    exact (rel.val k).getD rfl
  · subst ey
    cases (show u = Value.ref b from ry)
    obtain ⟨z, hd, xs, rel, dd⟩ := dt_rd I.hok e
    refine call_meetsIn PySem.F.slot_dict_get dd.typeIs PySem.F.entry_dict_get (PySem.F.args_dict_get_2 _ _) (meetsH_dict_get (tupleKind (mixKind X.prog X.w)) a b hd) ⟨tupleKind_room_in1 hu, k, xs, key_of I.hok eb, dd, h _ _ (I.tok _) ?_⟩
    rw [l]
    exact (rel.val k).getD rfl
end
def tDGet1 (td ty : TE) : TE := fun σ H Q => td σ H fun x H1 => ∃ a, x = .ref a ∧ IsD H1 a ∧ ty σ H1 fun y H2 => ∃ o, DGet H2 a y o ∧ Q (o.getD .non) H2
section
variable {X : Cx} {o e f : Expr} {apos cpos : Pos} {td ty tx : TE}
theorem pe_dget1 (hu : X.A.units + 1 < cLine) (ho : PE X o td) (he : PE X e ty) (m : M1 X o "get" apos e cpos) : PE X (.Call (.Attribute o "get" apos) [e] [] cpos) (tDGet1 td ty) := by
  intro pins s σ H Q I h
  refine wpAny_Call_method m.base m.few m.line PySem.F.plainAttrs_dict PySem.F.slot_dict_get PySem.F.type_dict_get (thn (ho pins s σ H _ I h) fun u s1 ⟨x, H1, I1, rx, a, ex, d, q1⟩ => ?_)
  subst ex
  obtain rfl : u = Value.ref a := rx
  obtain ⟨t1, t2, _⟩ := isD_at I1 d
  refine ⟨t1, t2, ?_⟩
  rw [m.trees]
  refine Calls.callWith_builtin rfl (Calls.evalArgs_plain (Calls.spliced_cons (thn (he pins s1 σ H1 _ I1 q1) fun iv s2 ⟨y, H2, I2, ry, ov, g, q2⟩ => Calls.spliced_nil ?_)))
  exact d_get1 hu I2 g ry fun w' s3 I3 rw' => ⟨_, H2, I3, rw', q2⟩
end
section
variable {X : Cx} {pins : List (Addr × Obj)} {σ : St} {H : Hp} {s : Shared} {a : Addr} {kvs : List (Key × V)} {A : Around} {E : Value → Shared → Prop}
theorem d_copyOf {Q : Value → Shared → Prop} (I : Inv X pins σ H s) (e : Rd H a (.dK kvs)) (h : ∀ p s', H p = none → Inv X pins σ (upd H p (.dK kvs)) s' → Q (.ref p) s') : wpAny (model X.prog X.w) A (call (.type "dict") [.ref a]) Q E s := by
  obtain ⟨z, hd, vs, rel, dd⟩ := dk_rd I.hok e
  refine kt_call_dict hd dd (by rw [← rel.length]; exact z) fun h' dd' hs => ?_
  refine h _ _ (I.hok.fresh (Nat.le_refl _)) (I.laid (a := s.heap.objs.size) (o := .dK kvs) (t' := s.toks) (fun b q hq => ?_) (Nat.le_refl _) (dk_new z (beq_eq_false_iff_ne.mpr (Ne.symm (Nat.ne_of_lt I.big))) rel dd'))
  exact (hs.2 b (Nat.ne_of_lt (Heap.lt_size hq))).trans (Heap.get?_push_of_some _ hq)
end
section
variable {X : Cx} {pins : List (Addr × Obj)} {σ : St} {H : Hp} {s : Shared} {a : Addr} {y : V} {u : Value} {A : Around} {E : Value → Shared → Prop}
end
end L2
namespace Att
open PySem PySem.W PySem.Calls PyProof.Rows
theorem ints_of_wellAll {P : Params} {h : Heap} : ∀ (ns : List Int) (vs : List Value), WellAll P h vs (ns.map WData.int) → IntsAre vs ns := by
  intro ns
  induction ns with
  | nil =>
    intro vs w
    rw [List.map_nil] at w
    cases w
    exact .nil
  | cons n ns ih =>
    intro vs w
    rw [List.map_cons] at w
    cases w with
    | cons a b =>
      cases a
      exact .cons _ _ (ih _ b)
theorem script_of {l : OpenLaw} {n : Nat} (hn : l.most = some n) {P : Params} {h : Heap} {args : List WData} {vals : List Value}
    (hpre : l.row.toRowW.claim.pre args = true) (hwl : WellAll P h vals args) :
    ∃ a vs ns, vals = [Value.ref a] ∧ args = [WData.list (ns.map WData.int)] ∧ h.get? a = some { cls := .type "list", data := .seq vs.toArray } ∧ IntsAre vs ns ∧ ns.length ≤ n := by
  have hsh : WShape.hasAll [] args [.list .int] = true := (pre_splitW hpre).1
  have hc : l.pre.holds [] { args := args } = true := (pre_splitW hpre).2
  obtain ⟨d, r, rfl, h1, h2⟩ := hasAllW_cons hsh
  obtain rfl := hasAllW_nil h2
  obtain ⟨xs, rfl, h3⟩ := hasW_list h1
  obtain ⟨ns, rfl⟩ := items_int h3
  have hlen : ns.length ≤ n := by
    unfold OpenLaw.pre at hc
    have h4 : (WTm.not (.lt (.lit (.int (n : Int))) (.len (.arg 0)))).holds [] { args := [.list (ns.map .int)] } = true := by
      have h4 := (holds_andW hc).1
      rw [hn] at h4
      exact h4
    have h5 := condW_of h4 (w_not (w_lt w_lit (w_len_list (w_arg rfl))))
    rw [List.length_map] at h5
    refine Nat.le_of_not_lt fun q => ?_
    have q' : (n : Int) < ((ns.length : Nat) : Int) := by omega
    first
      | (rw [decide_eq_true q'] at h5; exact absurd h5 (by decide))
      | (simp at h5; omega)
  cases hwl with
  | cons w1 w2 =>
    cases w2
    cases w1 with
    | list ho hall => exact ⟨_, _, ns, rfl, rfl, ho, ints_of_wellAll ns _ hall, hlen⟩
theorem post_true (l : OpenLaw) (args : List WData) : l.row.toRowW.claim.post args (.bool true) args = true :=
  postW_of (r := l.row.toRowW) (X := (true == true))
    (show WShape.has [] (.bool true) .bool = true by first | rfl | decide | simp [WShape.has, WShape.arms, WShape.armsAll])
    (show (WTm.eq .res (.lit (.bool true))).value [] { args := args, res := some (.bool true), after := args } = some (.bool (true == true)) from w_eq_bool (w_res rfl) w_lit) rfl
theorem attach_call {l : OpenLaw} {n : Nat} {q : Program} {loose : List Str} {XP : (Str → Option Value) → Heap → Prop} {YP : World → Heap → Prop} {d : DefRec}
    (hn : l.most = some n) (hdf : d.params.defaults = [])
    (call : ∀ (w : World) (s₀ s₁ : Shared) (mg mb : Str → Option Value) (fa : Addr) (o : Obj) (pm cd doc : Value) (a : Addr) (vs : List Value) (ns : List Int),
      Ground q loose [] XP w s₀ mg mb s₁.heap → YP w s₁.heap →
      s₁.heap.get? fa = some o → o.data = .func (docDef d.name d.params d.body d.scope pm cd doc) → s₁.heap.CodeRec cd d.name → mg d.name = some (.ref fa) →
      s₁.heap.get? a = some { cls := .type "list", data := .seq vs.toArray } → IntsAre vs ns → ns.length ≤ n → s₁.gens = #[] →
      codeAny (model l.prog w) callerA (.call (.ref fa) ⟨[.ref a], []⟩) (fun r s' => r = .ok (.ret (.bool true)) ∧ OldK s₁.heap s'.heap ∧ s'.os = s₁.os ∧ AllBare s'.gens) s₁) :
    WalkO q loose XP YP l.row.toRowW d [] (fun f vs => PySem.call f vs) := by
  intro w s₀ s₁ mg mb G Y fa o pm cd doc dV kV ho hd hcd hD hmg hg args vals as hpre hlay hrd hwl hlo
  obtain rfl : dV = .none := Dflts.none hD hdf
  obtain rfl : kV = .none := Dflts.noKw hD
  obtain ⟨a, vs, ns, rfl, rfl, hobj, hints, hlen⟩ := script_of hn hpre hwl
  refine enter_call (codeAny_mono (call w s₀ s₁ mg mb fa o pm cd doc a vs ns G Y ho (fd_plain hd) hcd hmg hobj hints hlen hg) fun r s' hq => ?_)
  obtain ⟨rfl, h2, h3, h4⟩ := hq
  exact ⟨.inl ⟨.bool true, .bool true, [], rfl, fun _ => rfl, .bool true, post_true l _, fun _ => ⟨List.Pairwise.nil, fun _ hm => (nomatch hm)⟩⟩, h2, h3, h4⟩
section
variable {prog : Program} {w : World} {A : Around} {E : Value → Shared → Prop} {s : Shared} {K : Frag}
end
end Att
namespace L2
open PySem PySem.Spec PyProof.Rows
theorem vals_ints : ∀ {vs : List Value} {ns : List Int}, IntsAre vs ns → Vals (ns.map V.int) vs
  | _, _, .nil => .nil
  | _, _, .cons n t h => .cons ⟨t, rfl⟩ (vals_ints h)
def Only (H : Hp) : Prop := ∀ b, H b = none ∨ ∃ o xs, H b = some (.frz o (.lst xs))
theorem law_call {P : Program} {w : World} {K : PySem.W.Frag} {mg mb : Str → Option Value} {CX : CXT} {k : Nat} {fa a : Addr} {fd : FuncData} {x : Str} {sp : Sp} {s₁ : Shared} {vs : List Value} {ns : List Int}
    (KX : K.In s₁.heap) (hns : s₁.heap.Ns mainGlobals mg) (hb : s₁.heap.Ns builtinsNs mb) (hbb : ∀ x : Str, x ≠ "__name__" → mb x = bootBuiltins x) (hlim : s₁.heap.NoLimit) (hg : s₁.gens = #[])
    (ha : s₁.heap.get? a = some { cls := .type "list", data := .seq vs.toArray }) (hi : IntsAre vs ns) (hl : ns.length ≤ sizeLine) (hr : Room k callerA)
    (F : ∀ base : Heap, K.In base → base.Ns mainGlobals mg → FnOk P w K mg base CX k fa fd [x] sp) (hbind : ∀ (s : Shared) (u : Value), BindsTo s fd ⟨[u], []⟩ [(x, u)])
    (hsp : ∀ H : Hp, Only H → SqL K H a (ns.map V.int) → sp [.ref a] H (fun v _ => v = .bl true) fun _ _ _ => False)
    (hCX : ∀ H e s', CX [] H s₁ (fun _ _ _ => False) e s' → False) :
    codeAny (model P w) callerA (.call (.ref fa) ⟨[.ref a], []⟩) (fun r s' => r = .ok (.ret (.bool true)) ∧ OldK s₁.heap s'.heap ∧ s'.os = s₁.os ∧ AllBare s'.gens) s₁ := by
  have rv := vals_ints hi
  have lenV := hi.length
  have core : ∀ H : Hp, Only H → SqL K H a (ns.map V.int) → HOk P w H s₁.heap → (∀ b, H b ≠ none → b = a) → (H a ≠ none → K.lookup a = none) →
      codeAny (model P w) callerA (.call (.ref fa) ⟨[.ref a], []⟩) (fun r s' => r = .ok (.ret (.bool true)) ∧ OldK s₁.heap s'.heap ∧ s'.os = s₁.os ∧ AllBare s'.gens) s₁ := by
    intro H hO hS hok hA hK
    have base_of : ∀ {b : Addr} {o : Obj}, s₁.heap.get? b = some o → H b = none → (hidT s₁.heap H).get? b = some o := fun e n => hidT_get e n
    have noA : ∀ {b : Addr} {o : Obj} {es : Array DictEntry} {ep : Nat}, s₁.heap.get? b = some o → o.data = .dict es ep → H b = none := fun {b o es ep} e d => by
      cases q : H b with
      | none => rfl
      | some u =>
        have e' : b = a := hA b (by rw [q]; simp)
        subst e'
        rw [ha] at e; cases e
        have d' : Data.seq vs.toArray _ = Data.dict es ep := d
        cases d'
    have nsK : ∀ {b : Addr} {m : Str → Option Value}, s₁.heap.Ns b m → (hidT s₁.heap H).Ns b m := fun {b m} ⟨o, es, ep, e, d, r⟩ => ⟨o, es, ep, base_of e (noA e d), d, r⟩
    have hKb : K.In (hidT s₁.heap H) := fun b o e => base_of (KX b o e) (by
      cases q : H b with
      | none => rfl
      | some u =>
        have e' : b = a := hA b (by rw [q]; simp)
        subst e'
        rw [hK (by rw [q]; simp)] at e; cases e)
    have hM : Mod K mg (hidT s₁.heap H) := ⟨hKb, nsK hns, ⟨mb, nsK hb, hbb⟩, let ⟨mc, h1, h2⟩ := hlim; ⟨mc, nsK h1, h2⟩⟩
    have e0 : Env0 P w K mg (hidT s₁.heap H) callerA [] s₁ H := ⟨rfl, hM, fun b o e => of_hidT e, Nat.le_of_eq (hidT_size _ _), trivial, fun b hb => absurd (show b ∈ ([] : List Addr) from hb) (by simp), hok, .of_eq hg⟩
    refine codeAny_mono ((F _ hKb (nsK hns)).run callerA [] s₁ H ⟨[.ref a], []⟩ [.ref a] [.ref a] _ _ hr e0 (hbind s₁ (.ref a)) (.cons rfl .nil) (hsp H hO hS)) fun r s' h => ?_
    cases r with
    | error e => exact (hCX H e s' h).elim
    | ok fl =>
      cases fl with
      | next => exact False.elim h
      | brk => exact False.elim h
      | cont => exact False.elim h
      | ret u =>
        obtain ⟨v, H', os, bare, un, hok', r', q⟩ := h
        have q' : v = .bl true := q
        subst q'
        obtain rfl : u = Value.bool true := r'
        refine ⟨rfl, OldK.of_keep fun b o e => ?_, os, bare⟩
        cases q : H b with
        | none => exact un.keep b o e q (by intro z; exact absurd (show b ∈ ([] : List Addr) from z) (by simp)) (by simp)
        | some u =>
          rcases hO b with z | ⟨ob, xs, z⟩
          · rw [q] at z; cases z
          · have z2 := un.frzs b ob _ z
            obtain ⟨e1, _⟩ := hok b _ z
            obtain ⟨e2, _⟩ := hok' b _ z2
            rw [e] at e1; cases e1
            exact e2
  cases hk : K.lookup a with
  | some o =>
    have e := KX a o hk
    rw [ha] at e
    cases e
    refine core (fun _ => none) (fun _ => .inl rfl) (.inr ⟨_, vs.toArray, _, hk, rfl, rfl, rfl, by rw [List.size_toArray, lenV]; exact hl, by simpa using rv⟩) (fun b u z => by have z' : (none : Option HO) = some u := z; cases z') (fun b z => absurd rfl z) fun z => absurd rfl z
  | none =>
    refine core (fun b => if b = a then some (.frz { cls := .type "list", data := .seq vs.toArray } (.lst (ns.map V.int))) else none) (fun b => ?_) (.inl (.inr ⟨{ cls := .type "list", data := .seq vs.toArray }, if_pos rfl⟩)) (fun b u z => ?_) (fun b z => ?_) fun _ => hk
    · by_cases hb : b = a
      · exact .inr ⟨_, _, if_pos hb⟩
      · exact .inl (if_neg hb)
    · by_cases hb : b = a
      · have z' := (if_pos hb).symm.trans z
        cases z'
        subst hb
        exact ⟨ha, by rw [List.length_map]; exact hl, vs, _, rv, ha⟩
      · have z' := (if_neg hb).symm.trans z
        cases z'
    · by_cases hb : b = a
      · exact hb
      · exact absurd (if_neg hb) z
end L2
namespace L2
open PySem PySem.Spec PyProof.Rows
theorem walk_of {l : PySem.W.OpenLaw} {n k : Nat} {q : Program} {loose : List Str} {XP : (Str → Option Value) → Heap → Prop} {YP : World → Heap → Prop} {d : DefRec} {K : Params → PySem.W.Frag} {CX : World → CXT} {sp : World → Sp} {x : Str}
    (hn : l.most = some n) (hn2 : n ≤ sizeLine) (hdf : d.params.defaults = []) (hr : Room k callerA)
    (hY : ∀ (w : World) (h : Heap), YP w h → (K w.params).In h)
    (F : ∀ (w : World) (mg : Str → Option Value) (fa : Addr) (h : Heap), (K w.params).In h → h.Ns mainGlobals mg → mg d.name = some (.ref fa) →
      ∃ fd : FuncData, (∀ (s : Shared) (u : Value), BindsTo s fd ⟨[u], []⟩ [(x, u)]) ∧
        ∀ base : Heap, (K w.params).In base → base.Ns mainGlobals mg → FnOk l.prog w (K w.params) mg base (CX w) k fa fd [x] (sp w))
    (hsp : ∀ (w : World) (H : Hp) (a : Addr) (ns : List Int), ns.length ≤ n → Only H → SqL (K w.params) H a (ns.map V.int) → sp w [.ref a] H (fun v _ => v = .bl true) fun _ _ _ => False)
    (hCX : ∀ (w : World) (H : Hp) (s : Shared) (e : Value) (s' : Shared), CX w [] H s (fun _ _ _ => False) e s' → False) :
    PySem.W.WalkO q loose XP YP l.row.toRowW d [] (fun f vs => PySem.call f vs) := by
  refine Att.attach_call hn hdf fun w s₀ s₁ mg mb fa o pm cd doc a vs ns G Y ho hd hcd hmg hobj hints hlen hg => ?_
  have KX := hY w _ Y
  obtain ⟨fd, hb, hF⟩ := F w mg fa _ KX G.T.g hmg
  exact law_call KX G.T.g G.T.b G.T.builtins G.T.nolimit hg hobj hints (Nat.le_trans hlen hn2) hr hF hb (fun H hO hS => hsp w H a ns hlen hO hS) fun H e s' => hCX w H s₁ e s'
end L2
namespace L2
open PySem PySem.Spec PyProof.Rows
def defArgs (s : Stmt) : Arguments := match s with
  | .FunctionDef _ a _ _ _ _ _ _ _ _ => a
  | _ => { posonlyargs := [], args := [], vararg := none, kwonlyargs := [], kw_defaults := [], kwarg := none, defaults := [] }
def defBody (s : Stmt) : List Stmt := match s with
  | .FunctionDef _ _ b _ _ _ _ _ _ _ => b
  | _ => []
def defScope (s : Stmt) : Scope := match s with
  | .FunctionDef _ _ _ _ _ _ sc _ _ _ => sc
  | _ => { kind := .function, names := [], isGenerator := false, isCoroutine := false }
abbrev CX0 : CXT := fun _ _ _ _ _ _ => False
abbrev E0 : XK := fun _ _ _ => False
theorem pass0 {X : Cx} : Passes CX0 X E0 := fun _ _ _ _ _ _ _ h => h.elim
structure Fun (K : PySem.W.Frag) (x qual : Str) (st : Stmt) (f : Addr) (fd : FuncData) : Prop where
  ex : ∃ (oc : Value) (od : Option Addr) (kV doc pm : Value) (an : Option Addr) (cdv ct : Value) (osl : Array (Option Value)),
    fd = PySem.W.fnOf x qual (defArgs st) (defBody st) (defScope st) .none kV doc pm an cdv ct ∧ K.lookup f = some ⟨oc, od, .func fd, osl⟩ ∧ PySem.W.codeIn K cdv qual = true
  kp : PySem.W.keepIn K (.ref f) = true
section
variable {P : Program} {w : World} {K : PySem.W.Frag} {mg : Str → Option Value} {base : Heap}
theorem Fun.ok {x qual : Str} {st : Stmt} {f : Addr} {fd : FuncData} {N ps : List Str} {k : Nat} {sp : Sp} (F : Fun K x qual st f fd) (S : FnScope N ps (defScope st)) (len : ∀ vs H Q E, sp vs H Q E → vs.length = ps.length)
    (hbody : ∀ (cdv : Value) (A : Around) (outer : List Env) (s : Shared) (H : Hp) (vs : List V) (Q : VK) (E : XK), Room k (A.deeper (envOfC qual (defScope st) s.heap.objs.size f cdv)) → sp vs H Q E →
      ∃ t, PSs (cxOf CX0 P w K mg base N qual (defScope st) f cdv A outer s H E).nox (defBody st) t ∧ t { nx := fun _ H' => Q .non H', rt := Q } (start N vs) H) : FnOk P w K mg base CX0 (k + 1) f fd ps sp := by
  obtain ⟨oc, od, kV, doc, pm, an, cdv, ct, osl, rfl, lk, hcd⟩ := F.ex
  refine fn_of lk hcd S len fun A outer s H vs Q E hr hsp => ?_
  obtain ⟨t, h, q⟩ := hbody cdv A outer s H vs Q E hr hsp
  exact ⟨t, h.nox, q⟩
theorem Fun.binds {x qual : Str} {st : Stmt} {f : Addr} {fd : FuncData} {ps : List Str} (F : Fun K x qual st f fd)
    (h : ∀ (kV doc pm : Value) (an : Option Addr) (cdv ct : Value) (us : List Value), us.length = ps.length → bindArgs (PySem.W.fnOf x qual (defArgs st) (defBody st) (defScope st) .none kV doc pm an cdv ct) ⟨us, []⟩ = pure (ps.zip us)) : Binds K fd ps [] := by
  obtain ⟨oc, od, kV, doc, pm, an, cdv, ct, osl, rfl, lk, hcd⟩ := F.ex
  exact .all (h kV doc pm an cdv ct)
theorem fun_mk {x qual : Str} {st : Stmt} {f : Addr} {oc : Value} {od an : Option Addr} {osl : Array (Option Value)} {kV doc pm cdv ct : Value} (l : K.lookup f = some ⟨oc, od, .func (PySem.W.fnOf x qual (defArgs st) (defBody st) (defScope st) .none kV doc pm an cdv ct), osl⟩)
    (c : PySem.W.codeIn K cdv qual = true) (k : PySem.W.keepIn K (.ref f) = true) : Fun K x qual st f (PySem.W.fnOf x qual (defArgs st) (defBody st) (defScope st) .none kV doc pm an cdv ct) := ⟨⟨oc, od, kV, doc, pm, an, cdv, ct, osl, rfl, l, c⟩, k⟩
end
theorem small1000 {n : Nat} (h : n ≤ 1000) : n < sizeLine := Nat.lt_of_le_of_lt h (by decide)
section
variable {X : Cx}
end
theorem iteF {A B : Prop} (h : B) : if false = true then A else B := by
  rw [if_neg Bool.false_ne_true]
  exact h
theorem iteT {A B : Prop} (h : A) : if true = true then A else B := by
  rw [if_pos rfl]
  exact h
def Same (H H' : Hp) : Prop := ∀ b o, H b = some o → H' b = some o
theorem Same.refl (H : Hp) : Same H H := fun _ _ h => h
theorem Same.trans {H H1 H2 : Hp} (a : Same H H1) (b : Same H1 H2) : Same H H2 := fun c o h => b c o (a c o h)
theorem Same.free {H H' : Hp} (e : Same H H') {l : Addr} (h : H' l = Option.none) : H l = Option.none := by
  cases q : H l with
  | none => rfl
  | some o =>
    rw [e l o q] at h
    cases h
theorem Same.seq {K : PySem.W.Frag} {H H' : Hp} {a : Addr} {xs : List V} (e : Same H H') (h : SqL K H a xs) : SqL K H' a xs := by
  rcases h with (h | ⟨o, h⟩) | h
  · exact .inl (.inl (e _ _ h))
  · exact .inl (.inr ⟨o, e _ _ h⟩)
  · exact .inr h
section
variable {κ : Type} [DecidableEq κ]
theorem valV_in {kvs : List (κ × V)} {k : κ} {v : V} (h : valV kvs k = some v) : k ∈ kvs.map (·.1) := by
  have q : (kvs.any fun kv => decide (kv.1 = k)) = true := by
    rw [valV_any, h]
    all_goals rfl
  obtain ⟨p, hp, e⟩ := List.any_eq_true.mp q
  exact List.mem_map.mpr ⟨p, hp, of_decide_eq_true e⟩
theorem nd_snoc : ∀ {l : List κ} {k : κ}, l.Nodup → ¬ k ∈ l → (l ++ [k]).Nodup
  | [], k, _, _ => by simp
  | a :: r, k, h, hk => by
    obtain ⟨h1, h2⟩ := List.nodup_cons.mp h
    show (a :: (r ++ [k])).Nodup
    refine List.nodup_cons.mpr ⟨fun m => ?_, nd_snoc h2 fun m => hk (List.mem_cons.mpr (Or.inr m))⟩
    rcases List.mem_append.mp m with q | q
    · exact h1 q
    · exact hk (List.mem_cons.mpr (Or.inl (List.mem_singleton.mp q).symm))
end
end L2
set_option Elab.async false
set_option linter.all false
set_option maxRecDepth 100000
set_option maxHeartbeats 4000000
namespace L2
open PySem PySem.Spec PyProof.Rows
def clOf (scope : Scope) (env : Env) : List (Str × Addr) := (scope.names.filter fun x => x.2 == .free).reverse.map fun x => (x.1, (env.cells.lookup x.1).getD 0)
theorem closure_acc {env : Env} : ∀ (l : List (Str × NameKind)) (cs : List (Str × Addr)), (∀ x ∈ l, x.2 = .free → ∃ c, env.cells.lookup x.1 = some c) →
    (forIn l cs fun (x : Str × NameKind) (r : List (Str × Addr)) => if (x.2 == NameKind.free) = true then (do let a ← cellOf env x.1; pure (ForInStep.yield ((x.1, a) :: r))) else (pure (ForInStep.yield r) : Sem (ForInStep (List (Str × Addr))))) =
      pure (((l.filter fun x => x.2 == .free).reverse.map fun x => (x.1, (env.cells.lookup x.1).getD 0)) ++ cs)
  | [], cs, _ => rfl
  | (n, k) :: l, cs, h => by
    rw [List.forIn_cons]
    by_cases hk : k = .free
    · subst hk
      obtain ⟨c, hc⟩ := h (n, .free) List.mem_cons_self rfl
      simp only [beq_self_eq_true, if_true]
      have hc' : env.cells.lookup n = some c := hc
      have e0 : cellOf env n = pure c := by unfold cellOf; rw [hc']
      simp only [e0, pure_bind]
      rw [closure_acc l _ fun x hx => h x (List.mem_cons_of_mem _ hx)]
      rw [List.filter_cons, if_pos (by rfl), List.reverse_cons, List.map_append, List.append_assoc]
      simp only [List.map_cons, List.map_nil, hc', Option.getD_some, List.cons_append, List.nil_append]
    · have hb : (k == NameKind.free) = false := by simpa using hk
      simp only [hb, Bool.false_eq_true, if_false, pure_bind]
      rw [closure_acc l cs fun x hx => h x (List.mem_cons_of_mem _ hx)]
      rw [List.filter_cons, if_neg (by simp [hb])]
theorem closure_eq {scope : Scope} {env : Env} (h : ∀ x ∈ scope.names, x.2 = .free → ∃ c, env.cells.lookup x.1 = some c) : closureFor scope env = pure (clOf scope env) := by
  have e := closure_acc (env := env) scope.names [] h
  rw [List.append_nil] at e
  unfold closureFor clOf
  simp only []
  refine Eq.trans ?_ (congrArg (fun m => m >>= fun r => (pure r : Sem (List (Str × Addr)))) e)
  rfl
theorem clOf_lookup_aux {env : Env} {x : Str} : ∀ (l : List (Str × NameKind)), (∀ y ∈ l, ∃ c, env.cells.lookup y.1 = some c) → (x ∈ l.map (·.1) → (l.map fun y => (y.1, (env.cells.lookup y.1).getD 0)).lookup x = env.cells.lookup x) ∧ (x ∉ l.map (·.1) → (l.map fun y => (y.1, (env.cells.lookup y.1).getD 0)).lookup x = none)
  | [], _ => ⟨fun h => by simp at h, fun _ => rfl⟩
  | (n, k) :: l, h => by
    have ih := clOf_lookup_aux (x := x) l fun y hy => h y (List.mem_cons_of_mem _ hy)
    obtain ⟨c, hc⟩ := h (n, k) List.mem_cons_self
    have hc' : env.cells.lookup n = some c := hc
    by_cases e : x = n
    · subst e
      refine ⟨fun _ => ?_, fun z => absurd (by simp) z⟩
      simp [List.lookup_cons, hc']
    · have eb : (x == n) = false := by simpa using e
      refine ⟨fun hm => ?_, fun hm => ?_⟩
      · simp only [List.map_cons, List.lookup_cons, eb]
        exact ih.1 (by simpa [e] using hm)
      · simp only [List.map_cons, List.lookup_cons, eb]
        exact ih.2 (fun z => hm (by simp [z]))
theorem clOf_sub {scope : Scope} {env : Env} (h : ∀ x ∈ scope.names, x.2 = .free → ∃ c, env.cells.lookup x.1 = some c) {x : Str} {c : Addr} (e : (clOf scope env).lookup x = some c) : env.cells.lookup x = some c := by
  have hl : ∀ y ∈ (scope.names.filter fun x => x.2 == .free).reverse, ∃ c, env.cells.lookup y.1 = some c := fun y hy => by
    obtain ⟨h1, h2⟩ := List.mem_filter.mp (List.mem_reverse.mp hy)
    exact h y h1 (by simpa using h2)
  have a := clOf_lookup_aux (x := x) _ hl
  by_cases hm : x ∈ (scope.names.filter fun x => x.2 == .free).reverse.map (·.1)
  · rw [← a.1 hm]; exact e
  · have z := a.2 hm
    unfold clOf at e
    rw [z] at e; cases e
theorem clOf_has {scope : Scope} {env : Env} (h : ∀ x ∈ scope.names, x.2 = .free → ∃ c, env.cells.lookup x.1 = some c) {x : Str} (hx : (x, NameKind.free) ∈ scope.names) : (clOf scope env).lookup x = env.cells.lookup x := by
  have hl : ∀ y ∈ (scope.names.filter fun x => x.2 == .free).reverse, ∃ c, env.cells.lookup y.1 = some c := fun y hy => by
    obtain ⟨h1, h2⟩ := List.mem_filter.mp (List.mem_reverse.mp hy)
    exact h y h1 (by simpa using h2)
  exact (clOf_lookup_aux (x := x) _ hl).1 (List.mem_map.mpr ⟨(x, .free), List.mem_reverse.mpr (List.mem_filter.mpr ⟨hx, rfl⟩), rfl⟩)
theorem relabel_cell {scope : Scope} {env : Env} (hc : ∀ y ∈ scope.names, y.2 ≠ .cell) {x : Str} (h : (relabel scope env).names.lookup x = some .cell ∨ (relabel scope env).names.lookup x = some .free) : (x, NameKind.free) ∈ scope.names := by
  have key : ∀ (l : List (Str × NameKind)), (∀ y ∈ l, y.2 ≠ .cell) → ∀ k, (k = NameKind.cell ∨ k = NameKind.free) → (l.map fun (n, k) => if (k == NameKind.free && env.scope.kind == .function && env.kindOf n == some .cell) then (n, NameKind.cell) else (n, k)).lookup x = some k → (x, NameKind.free) ∈ l := by
    intro l
    induction l with
    | nil => intro _ k _ e; simp at e
    | cons y r ih =>
      obtain ⟨n, k0⟩ := y
      intro hl k hk e
      have ih' := ih (fun y hy => hl y (List.mem_cons_of_mem _ hy)) k hk
      rw [List.map_cons] at e
      have hk0 : k0 ≠ .cell := hl (n, k0) List.mem_cons_self
      dsimp only at e
      by_cases hcnd : (k0 == NameKind.free && env.scope.kind == .function && env.kindOf n == some .cell) = true
      · rw [if_pos hcnd] at e
        cases hx : x == n with
        | true =>
          have : x = n := by simpa using hx
          subst this
          have : k0 = .free := by
            simp only [Bool.and_eq_true, beq_iff_eq] at hcnd
            exact hcnd.1.1
          subst this
          exact List.mem_cons_self
        | false =>
          simp only [List.lookup_cons, hx] at e
          exact List.mem_cons_of_mem _ (ih' e)
      · rw [if_neg hcnd] at e
        cases hx : x == n with
        | true =>
          have : x = n := by simpa using hx
          subst this
          simp only [List.lookup_cons, hx] at e
          have e' : k0 = k := Option.some.inj e
          subst e'
          rcases hk with z | z
          · exact absurd z hk0
          · subst z; exact List.mem_cons_self
        | false =>
          simp only [List.lookup_cons, hx] at e
          exact List.mem_cons_of_mem _ (ih' e)
  rcases h with h | h
  · exact key _ hc _ (.inl rfl) h
  · exact key _ hc _ (.inr rfl) h
def cxB (X : Cx) (own : List Str) (js : List Nat) (scope : Scope) (C : Addr) (s : Shared) (H : Hp) (fp : List Addr) : Cx :=
  { X with N := own ++ js.map (fun j => X.N.getD j Str.empty), s₀ := s, H₀ := H, env := compEnvC scope (clOf scope X.env) C X.env, outer := X.stack, stack := X.stack, ex := fp, fn := fun _ => false, pn := [], xe := fun _ _ => False }
def stB (own : List Str) (js : List Nat) (σ : St) : St := own.map (fun _ => none) ++ js.map (fun j => (σ[j]?).join)
def scB (X : Cx) (own : List Str) (js : List Nat) (scope : Scope) : Bool :=
  (scope.kind == .function) && (scope.names.all fun x => x.2 != .cell) && (scope.names.all fun x => x.2 != .local || scope.names.lookup x.1 == some .local) &&
  (scope.names.all fun x => x.2 != .free || (X.env.kindOf x.1 == some .cell || X.env.kindOf x.1 == some .free)) &&
  (js.all fun j => decide (j < X.N.length) && scope.names.any (fun y => y.1 == X.N.getD j Str.empty && y.2 == .free)) &&
  (scope.names.all fun x => x.2 != .free || scope.names.lookup x.1 != some .local)
theorem stB_len {own : List Str} {js : List Nat} {σ : St} {X : Cx} {scope : Scope} {C : Addr} {s : Shared} {H : Hp} {fp : List Addr} : (stB own js σ).length = (cxB X own js scope C s H fp).N.length := by
  show (stB own js σ).length = (own ++ js.map (fun j => X.N.getD j Str.empty)).length
  unfold stB; simp
section
variable {X : Cx} {pins : List (Addr × Obj)} {σ : St} {H : Hp} {s : Shared} {own : List Str} {js : List Nat} {scope : Scope} {fp : List Addr} {C D : Addr} {h1 : Heap}
structure ScB (X : Cx) (own : List Str) (js : List Nat) (scope : Scope) : Prop where
  kind : scope.kind = .function
  nocell : ∀ y ∈ scope.names, y.2 ≠ .cell
  names : ∀ x ∈ scope.names, x.2 = .local → scope.names.lookup x.1 = some .local
  free : ∀ x ∈ scope.names, x.2 = .free → X.env.kindOf x.1 = some .cell ∨ X.env.kindOf x.1 = some .free
  js : ∀ j ∈ js, j < X.N.length ∧ (X.N.getD j Str.empty, NameKind.free) ∈ scope.names
  one : ∀ x, (x, NameKind.free) ∈ scope.names → scope.names.lookup x ≠ some .local
theorem scB_of (h : scB X own js scope = true) : ScB X own js scope := by
  unfold scB at h
  simp only [Bool.and_eq_true, List.all_eq_true, Bool.or_eq_true, bne_iff_ne, beq_iff_eq, decide_eq_true_eq, List.any_eq_true] at h
  obtain ⟨⟨⟨⟨⟨h1, h2⟩, h3⟩, h4⟩, h5⟩, h6⟩ := h
  refine ⟨h1, h2, fun x hx e => ?_, fun x hx e => ?_, fun j hj => ?_, fun x hx => ?_⟩
  · rcases h3 x hx with z | z
    · exact absurd e z
    · exact z
  · rcases h4 x hx with z | z
    · exact absurd e z
    · exact z
  · obtain ⟨a, y, hy, e1, e2⟩ := h5 j hj
    refine ⟨a, ?_⟩
    obtain ⟨n, k⟩ := y
    simp only at e1 e2
    rw [← e1, ← e2]; exact hy
  · rcases h6 _ hx with z | z
    · exact absurd rfl z
    · exact z
theorem ScB.cells (S : ScB X own js scope) (I : Inv X pins σ H s) : ∀ x ∈ scope.names, x.2 = .free → ∃ c, X.env.cells.lookup x.1 = some c := fun x hx e => I.ok.has x.1 (S.free x hx e)
theorem Inv.block (S : ScB X own js scope) (I : Inv X pins σ H s) (hf : ∀ b ∈ fp, FpOk X pins H b) (hob : ∀ b ∈ fp, ∃ o, s.heap.get? b = some o) (hC : s.heap.objs.size ≤ C) {m : Str → Option Value} {t' : Nat} (hn : h1.Ns C m) (k : ∀ b u, s.heap.get? b = some u → h1.get? b = some u) :
    Inv (cxB X own js scope C s H fp) (X.pn ++ pins) (stB own js σ) H { s with heap := h1, toks := t' } := by
  have hcl := S.cells I
  have below : ∀ b o, s.heap.get? b = some o → b ≠ C := fun b o e => Nat.ne_of_lt (Nat.lt_of_lt_of_le (Heap.lt_size e) hC)
  have stk : ∀ b, b ≠ X.env.locals → b ∉ X.fs → b ∉ frs X.stack := fun b h1 h2 z => by
    rcases List.mem_cons.mp (I.stkSub b z) with e | e
    · exact h1 e
    · exact h2 e
  have noex : ∀ b o, X.base.get? b = some o → b ∉ fp := fun b o e z => by
    rcases (hf b z).2.2.2.1 with q | q
    · exact I.ok.noex b o e q
    · exact absurd (Nat.lt_of_lt_of_le (Heap.lt_size e) (Nat.le_trans I.ok.bsz q)) (Nat.lt_irrefl _)
  refine ⟨⟨I.ok.mod, S.kind, I.ok.glob, I.ok.blt, hC, fun x y c e1 e2 => ?_, fun x hx => ?_, fun x c z _ => (Bool.false_ne_true z).elim, I.ok.hd, I.ok.frames, .inl rfl, fun b hb => ⟨?_, fun x c e => ?_⟩, I.bs, Nat.le_trans I.ok.bsz I.sz, noex, fun b hb => ?_, I.stack, I.stkFree⟩,
    rfl, I.bare, Un.kept k, ⟨m, hn, fun i x v e1 e2 e3 => ?_⟩, fun x c e => ?_, ?_, fun x c e => ?_, fun p hp => ?_, I.hok.kept k, stB_len⟩
  · exact I.ok.inj x y c (clOf_sub hcl e1) (clOf_sub hcl e2)
  · have hm := relabel_cell S.nocell (x := x) (env := X.env) hx
    obtain ⟨c, e⟩ := hcl (x, .free) hm rfl
    exact ⟨c, (clOf_has hcl hm).trans e⟩
  · obtain ⟨o, e⟩ := hob b hb; exact below b o e
  · exact (hf b hb).2.2.2.2.1 x c (clOf_sub hcl e)
  · exact stk b (hf b hb).2.1 (hf b hb).2.2.1
  · have e1' : (own ++ js.map (fun j => X.N.getD j Str.empty))[i]? = some x := e1
    unfold stB at e2
    by_cases hi : i < own.length
    · rw [List.getElem?_append_left (by simpa using hi), List.getElem?_map] at e2
      rw [List.getElem?_eq_getElem hi] at e2
      simp at e2
    · rw [List.getElem?_append_right (by simpa using hi), List.getElem?_map] at e2
      rw [List.getElem?_append_right (by simpa using hi), List.getElem?_map] at e1'
      have el : (own.map fun _ => (none : Option V)).length = own.length := by simp
      rw [el] at e2
      cases hj : js[i - own.length]? with
      | none => rw [hj] at e1'; simp at e1'
      | some j =>
        rw [hj] at e1' e2
        simp only [Option.map_some, Option.some.injEq] at e1' e2
        have hjm : j ∈ js := List.mem_of_getElem? hj
        obtain ⟨hlt, hmem⟩ := S.js j hjm
        have hNj : X.N[j]? = some x := by
          rw [← e1', List.getD_eq_getElem?_getD, List.getElem?_eq_getElem hlt]; simp
        have hσ : σ[j]? = some (some v) := by
          cases q : σ[j]? with
          | none => rw [q] at e2; simp at e2
          | some w => rw [q] at e2; simp at e2; rw [e2]
        rw [e1'] at hmem
        obtain ⟨m0, hn0, hl0⟩ := I.loc
        have hkx : X.env.kindOf x = some .cell ∨ X.env.kindOf x = some .free := S.free (x, .free) hmem rfl
        obtain ⟨u, r, l⟩ := hl0 j x v hNj hσ (by rcases hkx with z | z; exact .inr (.inl z); exact .inr (.inr z))
        refine ⟨u, r, ?_⟩
        rcases l with ⟨z, _⟩ | ⟨_, c, hc, hcell⟩
        · rcases hkx with q | q
          · rw [q] at z; cases z
          · rw [q] at z; cases z
        · have hc' : (clOf scope X.env).lookup x = some c := (clOf_has hcl hmem).trans hc
          obtain ⟨oc, hoc, hocd⟩ := hcell
          refine .inr ⟨?_, c, hc', ⟨oc, k _ _ hoc, hocd⟩⟩
          rcases e3 with z | z | z
          · exfalso
            have hmm : (relabel scope X.env).names.lookup x = some .local := z
            exact absurd hmm (by
              intro hh
              have key : ∀ l : List (Str × NameKind), (∀ y ∈ l, y.2 = .local → scope.names.lookup y.1 = some .local) → (l.map fun (n, k) => if (k == NameKind.free && X.env.scope.kind == .function && X.env.kindOf n == some .cell) then (n, NameKind.cell) else (n, k)).lookup x = some .local → scope.names.lookup x = some .local := by
                intro l
                induction l with
                | nil => intro _ e; simp at e
                | cons y r ih =>
                  obtain ⟨n, k0⟩ := y
                  intro hl e
                  rw [List.map_cons] at e
                  dsimp only at e
                  by_cases hcnd : (k0 == NameKind.free && X.env.scope.kind == .function && X.env.kindOf n == some .cell) = true
                  · rw [if_pos hcnd] at e
                    cases hx : x == n with
                    | true => simp only [List.lookup_cons, hx] at e; cases e
                    | false => simp only [List.lookup_cons, hx] at e; exact ih (fun y hy => hl y (List.mem_cons_of_mem _ hy)) e
                  · rw [if_neg hcnd] at e
                    cases hx : x == n with
                    | true =>
                      simp only [List.lookup_cons, hx] at e
                      have e' : k0 = .local := Option.some.inj e
                      have : x = n := by simpa using hx
                      subst this
                      exact hl (x, k0) List.mem_cons_self e'
                    | false => simp only [List.lookup_cons, hx] at e; exact ih (fun y hy => hl y (List.mem_cons_of_mem _ hy)) e
              have a := key scope.names S.names hh
              exact S.one x hmem a)
          · exact .inl z
          · exact .inr z
  · obtain ⟨v, o, ho, hd⟩ := I.cell x c (clOf_sub hcl e)
    exact ⟨v, o, k _ _ ho, hd⟩
  · exact I.hok.fresh hC
  · exact I.freeC x c (clOf_sub hcl e)
  · obtain ⟨e, n, ne, nf, d⟩ := I.pin p hp
    exact ⟨k _ _ e, n, below _ _ e, stk _ ne nf, d⟩
end
end L2
set_option Elab.async false
set_option linter.all false
set_option maxRecDepth 100000
set_option maxHeartbeats 4000000
namespace L2
open PySem PySem.Spec PyProof.Rows
theorem HOk.track {P : Program} {w : World} {H : Hp} {h h' : Heap} {a C : Addr} {o : HO} (x : HOk P w H h) (hC : H C = none) (k : ∀ b, b ≠ C → h'.get? b = h.get? b) (hn : H a = none) (new : ObjOk P w (upd H a o) h' a o) : HOk P w (upd H a o) h' := fun b u e => by
  by_cases hb : b = a
  · subst hb; rw [upd_same] at e; cases e; exact new
  · rw [upd_ne hb] at e
    refine (x b u e).stay (fun c v hc q => ?_) (fun c q => by rw [upd_ne (ne_of_none q hn)]; exact q) fun c xs q => by rw [upd_ne (ne_of_none q hn)]; exact q
    have hcC : c ≠ C := by
      rcases hc with z | z
      · subst z; exact ne_of_none e hC
      · exact ne_of_none z hC
    rw [k c hcC]; exact q
abbrev forTests (ifs : List Expr) (env : Env) : Sem Bool := forIn ifs true fun c r => if r = true then do let ok ← isTrue c env (eval c env); pure (ForInStep.yield ok) else pure (ForInStep.yield r)
def PIfs (X : Cx) (ifs : List Expr) (t : TT) : Prop :=
  ∀ (pins : List (Addr × Obj)) (s : Shared) (σ : St) (H : Hp) (Q : Bool → Hp → Prop), Inv X pins σ H s → t σ H Q → wpAny (model X.prog X.w) X.A (forTests ifs X.env) (TP X pins σ Q) X.xe s
theorem pif0 {X : Cx} : PIfs X [] (fun _ H Q => Q true H) := fun pins s σ H Q I h => wpAny_tests_nil ⟨H, I, h⟩
theorem pif1 {X : Cx} {c : Expr} {t : TT} (h : PT X c t) : PIfs X [c] t := fun pins s σ H Q I hq => wpAny_tests_one (h pins s σ H Q I hq)
section
variable {X : Cx} {pins : List (Addr × Obj)} {σ : St} {H : Hp} {s : Shared} {own : List Str} {js : List Nat} {scope : Scope}
variable {tg iter elt : Expr} {ifs : List Expr} {pos : Pos} {g : TG} {ti : TT} {te : TE}
structure BlockEnd (X : Cx) (pins : List (Addr × Obj)) (own : List Str) (js : List Nat) (scope : Scope) (σ : St) (H : Hp) (s : Shared) (fp : List Addr) (C D : Addr) (out : List V) (H' : Hp) (s' : Shared) : Prop where
  inv : Inv (cxB X own js scope C s H fp) (X.pn ++ pins) (stB own js σ) H' s'
  free : H' D = none
  obj : ∃ (its : List Value) (n : Nat), Vals out its ∧ s'.heap.get? D = some { cls := .type "list", data := .seq its.toArray n }
theorem BlockEnd.out {fp : List Addr} {C D : Addr} {out : List V} {H' : Hp} {s' : Shared} {h' : Heap} (e : BlockEnd X pins own js scope σ H s fp C D out H' s') (I : Inv X pins σ H s) (hf : ∀ b ∈ fp, FpOk X pins H b) (hD : s.heap.objs.size ≤ D) (hC : s.heap.objs.size ≤ C) (hDC : D ≠ C)
    (hl : out.length ≤ sizeLine) (sb : Heap.SameBut C s'.heap h') : Inv X pins σ (upd H' D (.lst out)) { s' with heap := h' } := by
  obtain ⟨its, n, rv, ob⟩ := e.obj
  have J := e.inv
  have U : Un (frs X.stack) fp H H' s.heap s'.heap := J.base
  have same : ∀ b, b ≠ C → h'.get? b = s'.heap.get? b := fun b hb => sb.2 b hb
  have old : ∀ b o, s.heap.get? b = some o → b ≠ C ∧ b ≠ D := fun b o q => ⟨Nat.ne_of_lt (Nat.lt_of_lt_of_le (Heap.lt_size q) hC), Nat.ne_of_lt (Nat.lt_of_lt_of_le (Heap.lt_size q) hD)⟩
  have hHC : H' C = none := J.free
  refine I.call' (s' := { s' with heap := h' }) (ch := fp) J.os ?_ ?_ J.bare fun b hb => ?_
  · refine ⟨fun b o q n hb hx => ?_, fun b o q n hb hx => ?_, fun b o q n hx => ?_, fun b o q hx => ?_, fun b xs q => ?_, fun b o u q => ?_, fun b ps q => ?_⟩
    · show h'.get? b = _
      rw [same b (old b o q).1]; exact U.keep b o q n hb hx
    · show ∃ sl, h'.get? b = _
      rw [same b (old b o q).1]; exact U.slot b o q n hb hx
    · rw [upd_ne (old b o q).2]; exact U.free b o q n hx
    · show ∃ o', h'.get? b = _
      rw [same b (old b o q).1]; exact U.there b o q hx
    · rw [upd_ne (ne_of_none (U.tups b xs q) e.free)]; exact U.tups b xs q
    · rw [upd_ne (ne_of_none (U.frzs b o u q) e.free)]; exact U.frzs b o u q
    · obtain ⟨mo, z⟩ := U.tbls b ps q
      exact ⟨mo, by rw [upd_ne (ne_of_none z e.free)]; exact z⟩
  · refine HOk.track J.hok hHC same e.free ?_
    exact ⟨hl, its, n, rv, by rw [same D hDC]; exact ob⟩
  · exact ⟨(hf b hb).2.2.2.1, (hf b hb).2.1, (hf b hb).2.2.2.2.1, (hf b hb).2.2.2.2.2⟩
theorem comp_loop (S : ScB X own js scope) (hc : X.calm = true) {fp : List Addr} {it C D : Addr} {tn : Nat → Heap → Prop} {J : It} (T : Turn X.prog X.w X.K tg J fp it tn) (I : Inv X pins σ H s) (hf : ∀ b ∈ fp, FpOk X pins H b)
    (hD : s.heap.objs.size ≤ D) (hC : s.heap.objs.size ≤ C) (hDC : D ≠ C) (hob : ∀ b ∈ fp, ∃ o, s.heap.get? b = some o)
    (hg : PG (cxB X own js scope C s H fp) tg g) (hi : PIfs (cxB X own js scope C s H fp) ifs ti) (he : PE (cxB X own js scope C s H fp) elt te)
    (W : Nat → Nat → List V → Hp → Prop) {K : List V → Hp → Prop}
    (turn : ∀ i m out H, W i m out H → (J.stop i H ∧ (H D = none → out.length ≤ sizeLine ∧ K out H)) ∨
      (J.go i H ∧ ∀ x H', J.yld i H x H' → g x (stB own js σ) H' fun σ2 H2 => σ2.drop own.length = js.map (fun j => (σ[j]?).join) ∧ ti σ2 H2 fun b H3 =>
        if b = true then te σ2 H3 fun v H4 => out.length ≤ sizeLine ∧ ∃ m', m' < m ∧ W (i + 1) m' (out ++ [v]) H4 else ∃ m', m' < m ∧ W (i + 1) m' out H3))
    {R : Result → Shared → Prop} (hR : ∀ out H' s', BlockEnd X pins own js scope σ H s fp C D out H' s' → out.length ≤ sizeLine → K out H' → R (.ok .next) s')
    {m0 : Nat} {H1 : Hp} {s1 : Shared} (w0 : W 0 m0 [] H1) (B : BlockEnd X pins own js scope σ H s fp C D [] H1 s1) (st : tn 0 s1.heap) (fr : ∀ b ∈ fp, H1 b = none) :
    codeAny (model X.prog X.w) X.A (.compLoop (.ListComp elt [⟨tg, iter, ifs, 0⟩] scope pos) 0 (.ref it) (.ref D) (compEnvC scope (clOf scope X.env) C X.env)) R s1 := by
  have stat : ∀ {H' : Hp}, (∀ b ∈ fp, H' b = none) → ∀ b ∈ fp, FpOk (cxB X own js scope C s H fp) (X.pn ++ pins) H' b := fun hn b hb => by
    obtain ⟨o, ho⟩ := hob b hb
    refine ⟨hn b hb, Nat.ne_of_lt (Nat.lt_of_lt_of_le (Heap.lt_size ho) hC), ?_, .inl hb, fun x c e => (hf b hb).2.2.2.2.1 x c (clOf_sub (S.cells I) e), fun p hp => (hf b hb).2.2.2.2.2 p hp⟩
    intro z
    rcases List.mem_cons.mp (I.stkSub b z) with e | e
    · exact (hf b hb).2.1 e
    · exact (hf b hb).2.2.1 e
  have Dfp : D ∉ fp := fun z => by
    obtain ⟨o, ho⟩ := hob D z
    exact absurd (Nat.lt_of_lt_of_le (Heap.lt_size ho) hD) (Nat.lt_irrefl _)
  have Dcell : ∀ x c, (cxB X own js scope C s H fp).env.cells.lookup x = some c → c ≠ D := fun x c e z => by
    obtain ⟨v, o, ho, _⟩ := I.cell x c (clOf_sub (S.cells I) e)
    rw [z] at ho
    exact absurd (Nat.lt_of_lt_of_le (Heap.lt_size ho) hD) (Nat.lt_irrefl _)
  have Dpin : ∀ p ∈ X.pn ++ pins, p.1 ≠ D := fun p hp z => by
    have ho := (I.pin p hp).1
    rw [z] at ho
    exact absurd (Nat.lt_of_lt_of_le (Heap.lt_size ho) hD) (Nat.lt_irrefl _)
  have Dfs : D ∉ (cxB X own js scope C s H fp).fs := fun z => by
    obtain ⟨_, o, ho, _⟩ := I.stack.mem z
    exact absurd (Nat.lt_of_lt_of_le (Heap.lt_size ho) hD) (Nat.lt_irrefl _)
  refine codeAny_loop rfl (fun n s' => ∃ i out H', BlockEnd X pins own js scope σ H s fp C D out H' s' ∧ tn i s'.heap ∧ (∀ b ∈ fp, H' b = none) ∧ W i n out H') (fun n s3 hI => ?_) m0 ⟨0, [], H1, B, st, fr, w0⟩
  obtain ⟨i, out, H3, B3, st3, fr3, w3⟩ := hI
  obtain ⟨its, nD, rv, obD⟩ := B3.obj
  have pinD : ∀ {σ' : St} {H' : Hp} {s' : Shared}, Inv (cxB X own js scope C s H fp) (X.pn ++ pins) σ' H' s' → H' D = none → s'.heap.get? D = some { cls := .type "list", data := .seq its.toArray nD } →
      Inv (cxB X own js scope C s H fp) (X.pn ++ pins ++ [(D, { cls := .type "list", data := .seq its.toArray nD })]) σ' H' s' := fun {σ' H' s'} I' n' e' => I'.pins_of fun p hp => by
    rcases List.mem_append.mp hp with z | z
    · exact I'.pin p (by show p ∈ ([] : List (Addr × Obj)) ++ _; exact List.mem_append_right _ z)
    · have z' : p = (D, { cls := .type "list", data := .seq its.toArray nD }) := by simpa using z
      subst z'
      exact ⟨e', n', hDC, Dfs, fun v q => by cases q⟩
  have stat' : ∀ {H' : Hp}, (∀ b ∈ fp, H' b = none) → ∀ b ∈ fp, FpOk (cxB X own js scope C s H fp) (X.pn ++ pins ++ [(D, { cls := .type "list", data := .seq its.toArray nD })]) H' b := fun hn b hb => by
    obtain ⟨a1, a2, a3, a4, a5, a6⟩ := stat hn b hb
    refine ⟨a1, a2, a3, a4, a5, fun p hp => ?_⟩
    have hp' : p ∈ X.pn ++ pins ++ [(D, { cls := .type "list", data := .seq its.toArray nD })] := hp
    rcases List.mem_append.mp hp' with z | z
    · exact a6 p (by show p ∈ ([] : List (Addr × Obj)) ++ _; exact z)
    · have z' : p = (D, { cls := .type "list", data := .seq its.toArray nD }) := by simpa using z
      subst z'
      rintro rfl
      exact Dfp hb
  have thx : ∀ {α : Type} {t : Sem α} {Q Q' : α → Shared → Prop} {E : Value → Shared → Prop} {s : Shared}, wpAny (model X.prog X.w) X.A t Q (fun _ _ => False) s → (∀ a s, Q a s → Q' a s) → wpAny (model X.prog X.w) X.A t Q' E s :=
    fun h hQ => wpAny_mono h hQ fun _ _ x => x.elim
  have unD : ∀ {pl : List (Addr × Obj)} {σ' : St} {H' : Hp} {s' : Shared}, Inv (cxB X own js scope C s H fp) (X.pn ++ pins ++ [(D, { cls := .type "list", data := .seq its.toArray nD })] ++ pl) σ' H' s' → Inv (cxB X own js scope C s H fp) (X.pn ++ pins) σ' H' s' ∧ H' D = none ∧ s'.heap.get? D = some { cls := .type "list", data := .seq its.toArray nD } := fun {pl σ' H' s'} I' => by
    have q := I'.pin (D, { cls := .type "list", data := .seq its.toArray nD }) (List.mem_append_right _ (List.mem_append_left _ (List.mem_append_right _ (by simp))))
    exact ⟨I'.unpinned.unpinned, q.2.1, q.1⟩
  show wpAny _ X.A ((compTurn (.ListComp elt [⟨tg, iter, ifs, 0⟩] scope pos) 0 (.ref it) (.ref D) (compEnvC scope (clOf scope X.env) C X.env)).onRaise (fun x => do noteFrame x (compEnvC scope (clOf scope X.env) C X.env); theTreesLotGoes x)) _ _ s3
  refine wpAny_noted ?_
  rw [compTurn_list]
  refine wpAny_bind (wpAny_standAt (wpAny_bind ?_))
  rcases turn i n out H3 w3 with ⟨stop, fin⟩ | ⟨go, step⟩
  · refine thn (T.done (cxB X own js scope C s H fp) rfl rfl rfl hc i _ s3 _ H3 _ (pinD B3.inv B3.free obD) (stat' fr3) st3 stop) fun r s4 ⟨hr, I4⟩ => ?_
    subst hr
    obtain ⟨J4, n4, o4⟩ := unD (pl := []) (by rw [List.append_nil]; exact I4)
    obtain ⟨hl, k⟩ := fin B3.free
    exact wpAny_pure (hR out H3 s4 ⟨J4, n4, its, nD, rv, o4⟩ hl k)
  · refine thn (T.item (cxB X own js scope C s H fp) rfl rfl rfl hc i _ s3 _ H3 _ (pinD B3.inv B3.free obD) (stat' fr3) st3 go) fun r s4 ⟨u, hr, h4⟩ => ?_
    subst hr
    refine wpAny_bind (thn h4 fun _ s5 ⟨x, H5, I5, r5, y5, st5, fr5⟩ => ?_)
    have I5' := I5.pinned (stat' fr5) (T.obj _ _ st5)
    refine wpAny_bind (thx (hg _ s5 _ H5 x u _ I5' r5 (step x H5 y5)) fun _ s6 ⟨σ6, H6, I6, q6⟩ => ?_)
    obtain ⟨ed, q6⟩ := q6
    refine wpAny_bind (thx (hi _ s6 σ6 H6 _ I6 q6) fun ok s7 ⟨H7, I7, q7⟩ => ?_)
    have stay : ∀ {H' : Hp} {s' : Shared}, Inv (cxB X own js scope C s H fp) (X.pn ++ pins ++ [(D, { cls := .type "list", data := .seq its.toArray nD })] ++ pinsAt fp s5.heap) σ6 H' s' → tn (i + 1) s'.heap ∧ ∀ b ∈ fp, H' b = none := fun {H' s'} I' => by
      refine ⟨T.keep _ _ _ st5 fun b hb o e => (I'.pin (b, o) (List.mem_append_right _ (List.mem_append_right _ (mem_pinsAt hb e)))).1, fun b hb => ?_⟩
      obtain ⟨o, e, d⟩ := T.obj _ _ st5 b hb
      exact (I'.pin (b, o) (List.mem_append_right _ (List.mem_append_right _ (mem_pinsAt hb e)))).2.1
    have wk : ∀ {H' : Hp} {s' : Shared}, Inv (cxB X own js scope C s H fp) (X.pn ++ pins) σ6 H' s' → Inv (cxB X own js scope C s H fp) (X.pn ++ pins) (stB own js σ) H' s' := fun {H' s'} I' => by
      refine I'.weak (by rw [I'.len]; exact stB_len) fun k v e => ?_
      unfold stB at e
      by_cases hk : k < own.length
      · rw [List.getElem?_append_left (by simpa using hk), List.getElem?_map, List.getElem?_eq_getElem hk] at e
        simp at e
      · rw [List.getElem?_append_right (by simpa using hk)] at e
        have el : (own.map fun _ => (none : Option V)).length = own.length := by simp
        rw [el, ← ed, List.getElem?_drop] at e
        have ek : own.length + (k - own.length) = k := by lia
        rw [ek] at e
        exact e
    cases ok with
    | false =>
      rw [if_neg Bool.false_ne_true] at q7
      obtain ⟨m', hm, w7⟩ := q7
      obtain ⟨J7, n7, o7⟩ := unD I7
      exact wpAny_pure ⟨rfl, m', hm, i + 1, out, H7, ⟨wk J7, n7, its, nD, rv, o7⟩, (stay I7).1, (stay I7).2, w7⟩
    | true =>
      rw [if_pos rfl] at q7
      refine wpAny_bind (wpAny_bind (thx (he _ s7 σ6 H7 _ I7 q7) fun y s8 ⟨v, H8, I8, r8, hl8, m', hm, w8⟩ => ?_))
      obtain ⟨J8, n8, o8⟩ := unD I8
      have isl : s8.heap.IsList D its.toArray := ⟨_, o8, rfl, nD, rfl⟩
      refine wpAny_bind (wpAny_list_append_plain (hsz := by have := rv.length; simp; lia) ⟨nD, o8⟩ fun h' hp' hs' => ?_)
      obtain ⟨nn, ob'⟩ := hp'
      have ob2 : h'.get? D = some { cls := .type "list", data := .seq (its ++ [y]).toArray nn } := by
        rw [ob', List.push_toArray]
      have keep : ∀ b o, b ≠ D → s8.heap.get? b = some o → h'.get? b = some o := fun b o hb e => (hs'.2 b hb).trans e
      have J9 : Inv (cxB X own js scope C s H fp) (X.pn ++ pins) σ6 H8 { s8 with heap := h' } := J8.turned (t' := s8.toks) keep n8 hDC (.inr hD) Dcell (fun p hp => Dpin p (by
        have hp' : p ∈ ([] : List (Addr × Obj)) ++ (X.pn ++ pins) := hp
        rw [List.nil_append] at hp'
        exact hp'))
      refine wpAny_pure (wpAny_pure ⟨rfl, m', hm, i + 1, out ++ [v], H8, ⟨wk J9, n8, its ++ [y], nn, rv.append (.cons r8 .nil), ob2⟩, ?_, (stay I8).2, w8⟩)
      exact T.keep _ _ _ (stay I8).1 fun b hb o e => keep b o (by rintro rfl; exact Dfp hb) e
end
end L2
set_option Elab.async false
set_option linter.all false
set_option maxRecDepth 100000
set_option maxHeartbeats 4000000
namespace L2
open PySem PySem.Spec PyProof.Rows
def Itw (n : Nat) (PV : Nat → V → Prop) : It := ⟨fun i _ => i < n, fun i H x H' => H' = H ∧ PV i x, fun i _ => n ≤ i⟩
theorem go_flat {M : Model} {A : Around} {E : Value → Shared → Prop} {s : Shared} {tg : Expr} {it : Addr} {u : Value} {Q : Unit → Shared → Prop} (hu : ∀ a, u ≠ .ref a) (hQ : Q () s) : wpAny M A (letOwnedTupleGo tg (.ref it) u) Q E s := by
  unfold letOwnedTupleGo
  cases tg <;> first
    | exact wpAny_pure hQ
    | (cases u <;> first
        | exact wpAny_pure hQ
        | exact absurd rfl (hu _))
theorem turn_walks {P : Program} {w : World} {K : PySem.W.Frag} {tg : Expr} {it : Addr} {n : Nat} {Pv : Nat → Value → Prop} {PV : Nat → V → Prop} {St : Nat → Heap → Prop}
    (W : ∀ A : Around, A.handled = none → Walks P w A it [it] [it] n Pv St) (hv : ∀ i u, Pv i u → (∀ a, u ≠ .ref a) ∧ ∃ x, RelV x u ∧ PV i x)
    (ho : ∀ i h, St i h → ∃ o, h.get? it = some o ∧ ∀ v, o.data ≠ .cell v)
    (hk : ∀ i h h', St i h → (∀ o, h.get? it = some o → h'.get? it = some o) → St i h')
    (hself : ∀ (A : Around) (i : Nat) (s : Shared) (Q : Value → Shared → Prop) (E : Value → Shared → Prop), St i s.heap → Q (.ref it) s → wpAny (model P w) A (pyIter (.ref it)) Q E s) :
    Turn P w K tg (Itw n PV) [it] it (fun i h => St i h ∧ i ≤ n) where
  mem := by simp
  obj := fun i h st b hb => by
    have e : b = it := by simpa using hb
    subst e
    exact ho i h st.1
  keep := fun i h h' st k => ⟨hk i h h' st.1 fun o e => k it (by simp) o e, st.2⟩
  item := by
    intro X hP hw hK hc i pins s σ H E I hf st hg
    subst hP hw hK
    obtain ⟨f0, f1, f2, f3, f4, f5⟩ := hf it (by simp)
    refine (W X.A (I.ok.hd hc)).item i s _ _ hg st.1 fun v h' tk hv' st' kk => ?_
    obtain ⟨hne, x, rx, px⟩ := hv i v hv'
    have I1 : Inv X pins σ H { s with heap := h', toks := tk } := I.turned (fun b o hb e => kk b o (by simpa using hb) e) f0 f1 f3 f4 f5
    exact ⟨v, rfl, go_flat hne ⟨x, H, I1, rx, ⟨rfl, px⟩, ⟨st', hg⟩, fun b hb => (hf b hb).1⟩⟩
  done := by
    intro X hP hw hK hc i pins s σ H E I hf st hg
    subst hP hw hK
    obtain ⟨f0, f1, f2, f3, f4, f5⟩ := hf it (by simp)
    have e : i = n := Nat.le_antisymm st.2 hg
    subst e
    exact (W X.A (I.ok.hd hc)).done s _ _ st.1 fun h' tk kk => ⟨rfl, I.turned (fun b o hb e => kk b o (by simpa using hb) e) f0 f1 f3 f4 f5⟩
  self := fun A i s Q E st h => hself A i s Q E st.1 h
def sgn (c : Nat) : V := .str ⟨#[c]⟩
def SgnAt (x : Str) (i : Nat) (v : V) : Prop := ∃ c, x.cps[i]? = some c ∧ v = sgn c
def Its (x : Str) : It := Itw x.cps.size (SgnAt x)
theorem sgn_of {x : Str} {i : Nat} {u : Value} (h : SignAt x i u) : (∀ a, u ≠ .ref a) ∧ ∃ v, RelV v u ∧ SgnAt x i v := by
  obtain ⟨c, t, hc, rfl⟩ := h
  exact ⟨fun a z => (by cases z), sgn c, ⟨t, rfl⟩, c, hc, rfl⟩
theorem turn_strA {P : Program} {w : World} {K : PySem.W.Frag} {tg : Expr} (it : Addr) (x : Str) (t : Tok) : Turn P w K tg (Its x) [it] it (fun i h => h.IsStrIter it "str_ascii_iterator" x t i ∧ i ≤ x.cps.size) :=
  turn_walks (fun A hh => Walks.strAscii hh it x t) (fun i u h => sgn_of h)
    (fun i h st => by obtain ⟨o, e, c, d⟩ := st; exact ⟨o, e, fun v z => by rw [d] at z; cases z⟩)
    (fun i h h' st k => let ⟨o, e, r⟩ := st; ⟨o, k o e, r⟩)
    (fun A i s Q E st h => wpAny_pyIter_striter_ascii st h)
theorem turn_strW {P : Program} {w : World} {K : PySem.W.Frag} {tg : Expr} (it : Addr) (x : Str) (t : Tok) : Turn P w K tg (Its x) [it] it (fun i h => h.IsStrIter it "str_iterator" x t i ∧ i ≤ x.cps.size) :=
  turn_walks (fun A hh => Walks.strWide hh it x t) (fun i u h => sgn_of h)
    (fun i h st => by obtain ⟨o, e, c, d⟩ := st; exact ⟨o, e, fun v z => by rw [d] at z; cases z⟩)
    (fun i h h' st k => let ⟨o, e, r⟩ := st; ⟨o, k o e, r⟩)
    (fun A i s Q E st h => wpAny_pyIter_striter_wide st h)
section
variable {X : Cx} {tg : Expr}
def rIter (K : PySem.W.Frag) (v : V) (H : Hp) (R : It → Hp → Prop) : Prop :=
  (∃ a, v = .ref a ∧ (∃ xs, SqL K H a xs) ∧ R (Itl K a) H) ∨ (∃ a, v = .ref a ∧ (∃ xs, SqT K H a xs) ∧ R (Itt K a) H) ∨ (∃ x, v = .str x ∧ R (Its x) H)
theorem iter_any {pins : List (Addr × Obj)} {σ : St} {H1 : Hp} {s1 : Shared} {x : V} {v : Value} {R : It → Hp → Prop} (I1 : Inv X pins σ H1 s1) (r1 : RelV x v) (q1 : rIter X.K x H1 R) :
    wpAny (model X.prog X.w) X.A (pyIter v) (PIE X pins σ tg R) X.xe s1 := by
  have fp0 : ∀ b ∈ [s1.heap.objs.size], FpOk X pins H1 b := fun b hb => by
    have e : b = s1.heap.objs.size := by simpa using hb
    subst e
    exact I1.fpOk (Nat.le_refl _) (I1.hok.fresh (Nat.le_refl _))
  rcases q1 with ⟨a, e, ⟨xs, hq⟩, q⟩ | ⟨a, e, ⟨xs, hq⟩, q⟩ | ⟨z, e, q⟩
  · subst e
    cases r1
    obtain ⟨its, rv, p, hz⟩ := I1.list hq
    refine wpAny_pyIter_list p.isList ?_
    exact ⟨s1.heap.objs.size, [s1.heap.objs.size], _, _, H1, rfl, I1.kept (t' := s1.toks) fun b o e => Heap.get?_push_of_some _ e, turn_list a _, ⟨_, Heap.get?_push_size _ rfl, rfl, rfl⟩, fp0, q⟩
  · subst e
    cases r1
    obtain ⟨its, rv, p, hz⟩ := I1.tuple hq
    refine wpAny_pyIter_tuple (show s1.heap.IsTuple a its.toArray from p) ?_
    exact ⟨s1.heap.objs.size, [s1.heap.objs.size], _, _, H1, rfl, I1.kept (t' := s1.toks) fun b o e => Heap.get?_push_of_some _ e, turn_tuple a _, ⟨_, Heap.get?_push_size _ rfl, rfl, rfl⟩, fp0, q⟩
  · subst e
    obtain ⟨t, rfl⟩ := r1
    cases ha : z.cps.all (· < 128) with
    | false => exact wpAny_pyIter_wide ha ⟨s1.heap.objs.size, [s1.heap.objs.size], _, _, H1, rfl, I1.kept (t' := s1.toks) fun b o e => Heap.get?_push_of_some _ e, turn_strW _ z t, ⟨⟨_, Heap.get?_push_size _ rfl, rfl, rfl⟩, Nat.zero_le _⟩, fp0, q⟩
    | true => exact wpAny_pyIter_ascii ha ⟨s1.heap.objs.size, [s1.heap.objs.size], _, _, H1, rfl, I1.kept (t' := s1.toks) fun b o e => Heap.get?_push_of_some _ e, turn_strA _ z t, ⟨⟨_, Heap.get?_push_size _ rfl, rfl, rfl⟩, Nat.zero_le _⟩, fp0, q⟩
end
section
variable {X : Cx}
theorem vals_bl : ∀ {bs : List Bool} {us : List Value}, Vals (bs.map V.bl) us → us = bs.map Value.bool
  | [], _, .nil => rfl
  | b :: bs, _, .cons r t => by
    have e : _ = Value.bool b := r
    rw [e, vals_bl t]; rfl
theorem range_all' (bs : List Bool) : ((List.range bs.length).all fun i => (bs[i]?).getD true) = bs.all id := by
  rw [Bool.eq_iff_iff, List.all_eq_true, List.all_eq_true]
  constructor
  · intro h b hb
    obtain ⟨i, hi, rfl⟩ := List.getElem_of_mem hb
    have := h i (List.mem_range.mpr hi)
    simpa [List.getElem?_eq_getElem hi] using this
  · intro h i hi
    have hi' := List.mem_range.mp hi
    simpa [List.getElem?_eq_getElem hi'] using h _ (List.getElem_mem hi')
theorem kept_it {s : Shared} {h' : Heap} {o : Obj} (hk : ∀ b x, b ∉ [s.heap.objs.size] → (s.heap.push o).get? b = some x → h'.get? b = some x) : ∀ b x, s.heap.get? b = some x → h'.get? b = some x :=
  fun b x e => hk b x (fun hm => by rw [List.mem_singleton.mp hm] at e; exact Nat.lt_irrefl _ (Heap.lt_size e)) (Heap.get?_push_of_some _ e)
def rAll (K : PySem.W.Frag) : List V → Hp → VK → Prop := fun xs H Q => ∃ (p : Addr) (bs : List Bool), xs = [.ref p] ∧ SqL K H p (bs.map V.bl) ∧ Q (.bl (bs.all id)) H
theorem call_allB (hc : X.calm = true) : CallR X (.builtin "all") (rAll X.K) := by
  intro pins s σ H xs us Q I r h
  obtain ⟨l, bs, rfl, hx, q⟩ := h
  obtain ⟨u, rfl, ru⟩ := vals1 r
  cases ru
  obtain ⟨its, rv, ht, hz⟩ := I.list hx
  have e := vals_bl rv
  subst e
  have hl := ht.isList
  have hlt : l < s.heap.objs.size := ht.lt
  refine call_all_walk (wpAny_pyIter_list hl ?_)
  refine ⟨s.heap.objs.size, [s.heap.objs.size, l], [s.heap.objs.size], (bs.map Value.bool).toArray.size, _, _, fun i => (bs[i]?).getD true, rfl, Walks.list (A := X.A.in1) (I.ok.hd hc) _ l (Nat.ne_of_lt hlt) (bs.map Value.bool).toArray,
    ⟨⟨_, Heap.get?_push_size _ rfl, rfl, rfl⟩, hl.push _⟩, fun i v s' Q' E' hP hQ => ?_, fun h' tk hk => ?_⟩
  · have hP' : (bs.map Value.bool)[i]? = some v := by simpa using hP
    rw [List.getElem?_map] at hP'
    cases e : bs[i]? with
    | none => rw [e] at hP'; cases hP'
    | some b =>
      rw [e] at hP'
      cases hP'
      simp only [e, Option.getD_some] at hQ
      exact wpAny_truthy_bool hQ
  · have e : ((List.range (bs.map Value.bool).toArray.size).all fun i => (bs[i]?).getD true) = bs.all id := by
      rw [List.size_toArray, List.length_map]; exact range_all' bs
    rw [e]
    exact ⟨.bl (bs.all id), H, I.kept (kept_it hk), rfl, q⟩
def rSlS : V → Option Int → Option Int → Hp → VK → Prop := fun x lo hi H Q => ∃ z, x = .str z ∧ z.length ≤ sizeLine ∧ Q (.str (Txt.slice z lo hi)) H
theorem sl_str : SlR X rSlS := by
  intro pins s σ H x v vl vu lo hi sl Q I rx hs pl pu h
  obtain ⟨z, rfl, hz, q⟩ := h
  obtain ⟨t, rfl⟩ := rx
  refine ⟨"str", _, F.slot_str_getitem.lookup, typeIs_str _ _ _, ?_⟩
  have fin : ∀ t' k, EP X pins σ Q (.str (Txt.slice z lo hi) t') { s with toks := k } := fun t' k => ⟨.str _, H, I.tok _, ⟨t', rfl⟩, q⟩
  cases pl with
  | none =>
    cases pu with
    | none => exact wpAny_getItem_str_slice (l := none) (u := none) (st := none) hs rfl (post_val_or_str ⟨Nat.le_trans (Txt.slice_le z _ _) hz, fin⟩)
    | int j tj => exact wpAny_getItem_str_slice (l := none) (u := some (j, tj)) (st := none) hs rfl (post_val_or_str ⟨Nat.le_trans (Txt.slice_le z _ _) hz, fin⟩)
  | int i ti =>
    cases pu with
    | none => exact wpAny_getItem_str_slice (l := some (i, ti)) (u := none) (st := none) hs rfl (post_val_or_str ⟨Nat.le_trans (Txt.slice_le z _ _) hz, fin⟩)
    | int j tj => exact wpAny_getItem_str_slice (l := some (i, ti)) (u := some (j, tj)) (st := none) hs rfl (post_val_or_str ⟨Nat.le_trans (Txt.slice_le z _ _) hz, fin⟩)
def rSl (K : PySem.W.Frag) : V → Option Int → Option Int → Hp → VK → Prop := fun x lo hi H Q => rSlL K x lo hi H Q ∨ rSlT K x lo hi H Q ∨ rSlS x lo hi H Q
theorem sl_any : SlR X (rSl X.K) := sl_list.or (sl_tup.or sl_str)
def TyB (K : PySem.W.Frag) (H : Hp) : V → String → Prop
  | .non, t => t = "NoneType"
  | .bl _, t => t = "bool"
  | .int _, t => t = "int"
  | .str _, t => t = "str"
  | .ref a, t => (t = "list" ∧ ∃ xs, SqL K H a xs) ∨ (t = "tuple" ∧ ∃ xs, SqT K H a xs) ∨ (t = "dict" ∧ ∃ kvs, Rd H a (.dK kvs))
  | _, _ => False
def isiB (t T : String) : Bool := t == T || (t == "bool" && T == "int")
def rIsi (K : PySem.W.Frag) : List V → Hp → VK → Prop := fun xs H Q => ∃ x T t, xs = [x, .ty T] ∧ TyB K H x t ∧ (T = "str" ∨ T = "int" ∨ T = "bool" ∨ T = "list" ∨ T = "tuple" ∨ T = "dict") ∧ Q (.bl (isiB t T)) H
theorem kit_isi {K : PySem.W.Frag} {t T : String} (ht : t = "NoneType" ∨ t = "bool" ∨ t = "int" ∨ t = "str" ∨ t = "list" ∨ t = "tuple" ∨ t = "dict") (hT : T = "str" ∨ T = "int" ∨ T = "bool" ∨ T = "list" ∨ T = "tuple" ∨ T = "dict") :
    PySem.W.kitOne K (.type t) (.type T) = some (isiB t T) := by
  rcases ht with rfl | rfl | rfl | rfl | rfl | rfl | rfl <;> rcases hT with rfl | rfl | rfl | rfl | rfl | rfl <;> rfl
theorem call_isi : CallR X (.builtin "isinstance") (rIsi X.K) := by
  intro pins s σ H xs us Q I r h
  obtain ⟨x, T, t, rfl, ty, hT, q⟩ := h
  obtain ⟨u, c, rfl, rx, rc⟩ := vals2 r
  cases rc
  have fin : ∀ tk, EP X pins σ Q (.bool (isiB t T)) { s with toks := tk } := fun tk => ⟨.bl _, H, I.tok tk, rfl, q⟩
  cases x with
  | non => cases ty; cases (show u = Value.none from rx); exact PySem.W.kia_one PySem.W.kitx_none I.kIn True.intro (kit_isi (by simp) hT) (fun z => nomatch z) fin
  | bl y => cases ty; cases (show u = Value.bool y from rx); exact PySem.W.kia_one PySem.W.kitx_bool I.kIn True.intro (kit_isi (by simp) hT) (fun z => nomatch z) fin
  | int i => cases ty; obtain ⟨t, q⟩ := (show ∃ t, u = Value.int i t from rx); cases q; exact PySem.W.kia_one PySem.W.kitx_int I.kIn True.intro (kit_isi (by simp) hT) (fun z => nomatch z) fin
  | str y => cases ty; obtain ⟨t, q⟩ := (show ∃ t, u = Value.str y t from rx); cases q; exact PySem.W.kia_one PySem.W.kitx_str I.kIn True.intro (kit_isi (by simp) hT) (fun z => nomatch z) fin
  | byt _ => exact False.elim ty
  | flt _ => exact False.elim ty
  | ty _ => exact False.elim ty
  | ref a =>
    cases (show u = Value.ref a from rx)
    rcases ty with ⟨rfl, ys, hy⟩ | ⟨rfl, ys, hy⟩ | ⟨rfl, kvs, hy⟩
    · obtain ⟨its, _, ⟨o, n, e, c, _, _⟩, _⟩ := I.list hy
      exact PySem.W.kia_one PySem.W.kitx_list I.kIn ⟨o, e, c⟩ (kit_isi (by simp) hT) (fun z => nomatch z) fin
    · obtain ⟨its, _, ⟨o, e, c, _⟩, _⟩ := I.tuple hy
      exact PySem.W.kia_one PySem.W.kitx_tuple I.kIn ⟨o, e, c⟩ (kit_isi (by simp) hT) (fun z => nomatch z) fin
    · obtain ⟨_, _, vs, _, o, es, ep, h1, h2, _⟩ := dk_rd I.hok hy
      exact PySem.W.kia_one PySem.W.kitx_dict I.kIn ⟨o, h1, h2.1⟩ (kit_isi (by simp) hT) (fun z => nomatch z) fin
end
end L2
set_option Elab.async false
set_option linter.all false
set_option maxRecDepth 100000
set_option maxHeartbeats 4000000
namespace L2
open PySem PySem.Spec PyProof.Rows
section
variable {X : Cx}
def rAddX (K : PySem.W.Frag) : R2 := fun x y H Q => rI0 (fun i j => .int (i + j)) x y H Q ∨ (∃ i j, x = .str i ∧ y = .str j ∧ i.length + j.length ≤ sizeLine ∧ Q (.str (i ++ j)) H) ∨ rCat x y H Q ∨ rCatT K x y H Q
theorem op_addX : OpR X (binaryOp .Add) (rAddX X.K) := op_add.or (op_add_str.or (op_cat.or op_catT))
theorem op_in_sgn : OpR X (compareOp .In) (fun x y H Q => ∃ c j, x = sgn c ∧ y = .str j ∧ Q (.bl (decide (c ∈ j.cps.toList))) H) := by
  intro pins s σ H x y v u Q I rx ry h
  obtain ⟨c, j, rfl, rfl, q⟩ := h
  refine op_in_str pins s σ H _ _ v u Q I rx ry ⟨⟨#[c]⟩, j, rfl, rfl, ?_⟩
  rw [StrLaws.found_one]; exact q
theorem op_notIn_sgn : OpR X (compareOp .NotIn) (fun x y H Q => ∃ c j, x = sgn c ∧ y = .str j ∧ Q (.bl (!decide (c ∈ j.cps.toList))) H) := by
  intro pins s σ H x y v u Q I rx ry h
  obtain ⟨c, j, rfl, rfl, q⟩ := h
  refine op_notIn_str pins s σ H _ _ v u Q I rx ry ⟨⟨#[c]⟩, j, rfl, rfl, ?_⟩
  rw [StrLaws.found_one]; exact q
theorem op_in_dict (hu : X.A.units + 1 < cLine) : OpR X (compareOp .In) (fun y x H Q => ∃ a o, x = .ref a ∧ DGet H a y o ∧ Q (.bl o.isSome) H) := by
  intro pins s σ H y x v u Q I ry rx h
  obtain ⟨a, o, rfl, g, q⟩ := h
  cases rx
  exact d_in hu I g ry fun s' I' => ⟨.bl _, H, I', rfl, q⟩
theorem op_notIn_dict (hu : X.A.units + 1 < cLine) : OpR X (compareOp .NotIn) (fun y x H Q => ∃ a o, x = .ref a ∧ DGet H a y o ∧ Q (.bl (!o.isSome)) H) := by
  intro pins s σ H y x v u Q I ry rx h
  obtain ⟨a, o, rfl, g, q⟩ := h
  cases rx
  exact d_notIn hu I g ry fun s' I' => ⟨.bl _, H, I', rfl, q⟩
def rInX (K : PySem.W.Frag) : R2 := fun x y H Q => (∃ c j, x = sgn c ∧ y = .str j ∧ Q (.bl (decide (c ∈ j.cps.toList))) H) ∨ rIn K false x y H Q ∨ (∃ a o, y = .ref a ∧ DGet H a x o ∧ Q (.bl o.isSome) H)
def rNotInX (K : PySem.W.Frag) : R2 := fun x y H Q => (∃ c j, x = sgn c ∧ y = .str j ∧ Q (.bl (!decide (c ∈ j.cps.toList))) H) ∨ rIn K true x y H Q ∨ (∃ a o, y = .ref a ∧ DGet H a x o ∧ Q (.bl (!o.isSome)) H)
theorem op_inX (hu : X.A.units + 1 < cLine) : OpR X (compareOp .In) (rInX X.K) := op_in_sgn.or (op_in_seq.or (op_in_dict hu))
theorem op_notInX (hu : X.A.units + 1 < cLine) : OpR X (compareOp .NotIn) (rNotInX X.K) := op_notIn_sgn.or (op_notIn_seq.or (op_notIn_dict hu))
def rLtX : R2 := fun x y H Q => rI0 (fun i j => .bl (decide (i < j))) x y H Q ∨ (∃ i j, x = .str i ∧ y = .str j ∧ Q (.bl (decide (i.cps.toList < j.cps.toList))) H)
theorem op_ltX : OpR X (compareOp .Lt) rLtX := op_lt.or op_lt_str
theorem ix_dict (hu : X.A.units + 1 < cLine) : IxR X (fun x y H Q => ∃ a v, x = .ref a ∧ DGet H a y (some v) ∧ Q v H) := by
  intro value slice pins s σ H x y v u Q I rx ry h hs
  obtain ⟨a, z, rfl, g, q⟩ := h
  cases rx
  exact tail_any (dict_typeIs I g) PySem.F.slot_dict_getitem.lookup (d_getItem hu I g ry fun w2 s' I' r' => ⟨z, H, I', r', q⟩) hs
def rIxX (K : PySem.W.Frag) : R2 := fun x y H Q => rIx K x y H Q ∨ (∃ a v, x = .ref a ∧ DGet H a y (some v) ∧ Q v H)
theorem ix_any (hu : X.A.units + 1 < cLine) : IxR X (rIxX X.K) := ix_seq.or (ix_dict hu)
def rLen (K : PySem.W.Frag) : List V → Hp → VK → Prop := fun xs H Q => (∃ x n, xs = [x] ∧ LenV K x H n ∧ Q (.int n) H) ∨ (∃ a kvs, xs = [V.ref a] ∧ Rd H a (.dK kvs) ∧ Q (.int kvs.length) H)
theorem call_lenX : CallR X (.builtin "len") (rLen X.K) := by
  refine call_len.or ?_
  intro pins s σ H xs us Q I r h
  obtain ⟨a, kvs, rfl, ha, q⟩ := h
  obtain ⟨u, rfl, ru⟩ := vals1 r
  cases ru
  exact d_len I ha fun t s' I' => ⟨.int kvs.length, H, I', ⟨t, rfl⟩, q⟩
end
def Cal (P : Program) (w : World) (K : PySem.W.Frag) (mg : Str → Option Value) (base : Heap) (CX : CXT) (k : Nat) (x : Str) (ps : List Str) (dvs : List V) (sp : Sp) : Prop :=
  ∃ f fd ds, FnOk P w K mg base CX k f fd ps sp ∧ mg x = some (.ref f) ∧ PySem.W.keepIn K (.ref f) = true ∧ Binds K fd ps ds ∧ Vals dvs ds
section
variable {X : Cx} {CX : CXT} {k : Nat} {x : Str} {ps : List Str} {dvs : List V} {sp : Sp} {E : XK} {e : Expr} {es : List Expr} {t : TA} {p pos : Pos}
theorem pe_callC (C : Cal X.prog X.w X.K X.mg X.base CX k x ps dvs sp) (hr : Room k X.A) (hx : Passes CX X E) (ha : PA X (e :: es) t) (hg : Gl X x := by rfl)
    (hdb : (x == ("__debug__" : Str)) = false := by decide) (he : starEach (e :: es) X.env = (false, eval e X.env) :: starEach es X.env := by rfl) (hpl : (backTo pos (starEach es X.env)).any (·.1) = false := by rfl) :
    PE X (.Call (.Name x p) (e :: es) [] pos) (tCall sp dvs E t) := by
  obtain ⟨f, fd, ds, F, hm, hk, hb, hd⟩ := C
  exact pe_call F hr hg hm hk hb hd hx ha hdb he hpl
theorem hu_le {k : Nat} {A : Around} (r : Room k A) : A.units + 1 < cLine := by have := r.un; lia
end
section
variable {K : PySem.W.Frag} {σ : St} {H : Hp} {Q : VK} {D : Ends} {nx bk ct : St → Hp → Prop} {rt : VK}
theorem r_var {i : Nat} {v : V} (h : σ[i]? = some (some v)) (q : Q v H) : tVar i σ H Q := ⟨v, h, q⟩
theorem r_C {v : V} (q : Q v H) : tC v σ H Q := q
theorem r_op {r : R2} {ta tb : TE} (q : ta σ H fun x H1 => tb σ H1 fun y H2 => r x y H2 Q) : tOp r ta tb σ H Q := q
theorem r_test {t : TE} {Qb : Bool → Hp → Prop} (q : t σ H fun x H' => ∃ k, x = .bl k ∧ Qb k H') : tTest t σ H Qb := q
theorem r_bl {b : Bool} {Qb : Bool → Prop} (q : Qb b) : ∃ k, V.bl b = .bl k ∧ Qb k := ⟨b, rfl, q⟩
theorem r_tru {b : Bool} {Qb : Bool → Prop} (q : Qb b) : ∃ k, TruV K (V.bl b) H k ∧ Qb k := ⟨b, rfl, q⟩
theorem r_not {t : TT} {Qb : Bool → Hp → Prop} (q : t σ H fun c H1 => Qb (!c) H1) : tNot t σ H Qb := q
theorem r_and {t u : TT} {Qb : Bool → Hp → Prop} (q : t σ H fun c H1 => if c = true then u σ H1 Qb else Qb false H1) : tAnd t u σ H Qb := q
theorem r_or {t u : TT} {Qb : Bool → Hp → Prop} (q : t σ H fun c H1 => if c = true then Qb true H1 else u σ H1 Qb) : tOr t u σ H Qb := q
theorem r_andV {ta tb : TE} (q : ta σ H fun x H1 => ∃ c, x = .bl c ∧ if c = true then tb σ H1 Q else Q (.bl false) H1) : tAndV ta tb σ H Q := q
theorem r_nil {Qa : List V → Hp → Prop} (q : Qa [] H) : tNil σ H Qa := q
theorem r_cons {ta : TE} {tr : TA} {Qa : List V → Hp → Prop} (q : ta σ H fun x H1 => tr σ H1 fun xs H2 => Qa (x :: xs) H2) : tCons ta tr σ H Qa := q
theorem r_call {sp : Sp} {dvs : List V} {E : XK} {t : TA} (q : t σ H fun vs H1 => sp (vs ++ dvs) H1 Q E) : tCall sp dvs E t σ H Q := q
theorem r_cb {r : List V → Hp → VK → Prop} {t : TA} (q : t σ H fun vs H1 => r vs H1 Q) : tCB r t σ H Q := q
theorem r_sl {r : V → Option Int → Option Int → Hp → VK → Prop} {te : TE} {tl th : TO} (q : te σ H fun x H1 => tl σ H1 fun l H2 => th σ H2 fun u H3 => r x l u H3 Q) : tSl r te tl th σ H Q := q
theorem r_noPart {Qo : Option Int → Hp → Prop} (q : Qo none H) : tNoPart σ H Qo := q
theorem r_part {t : TE} {Qo : Option Int → Hp → Prop} (q : t σ H fun x H1 => ∃ i, x = .int i ∧ Qo (some i) H1) : tPart t σ H Qo := q
theorem r_int {i : Int} {Qo : Int → Prop} (q : Qo i) : ∃ j, V.int i = .int j ∧ Qo j := ⟨i, rfl, q⟩
theorem r_add_int {i j : Int} (q : Q (.int (i + j)) H) : rAddX K (.int i) (.int j) H Q := .inl ⟨i, j, rfl, rfl, q⟩
theorem r_add_str {i j : Str} (h : i.length + j.length ≤ sizeLine) (q : Q (.str (i ++ j)) H) : rAddX K (.str i) (.str j) H Q := .inr (.inl ⟨i, j, rfl, rfl, h, q⟩)
theorem r_i0 {g : Int → Int → V} {i j : Int} (q : Q (g i j) H) : rI0 g (.int i) (.int j) H Q := ⟨i, j, rfl, rfl, q⟩
theorem r_i {C : Int → Int → Prop} {g : Int → Int → V} {i j : Int} (h : C i j) (q : Q (g i j) H) : rI C g (.int i) (.int j) H Q := ⟨i, j, rfl, rfl, h, q⟩
theorem r_lt_int {i j : Int} (q : Q (.bl (decide (i < j))) H) : rLtX (.int i) (.int j) H Q := .inl ⟨i, j, rfl, rfl, q⟩
theorem r_eq_int {i j : Int} (q : Q (.bl (decide (i = j))) H) : rEq (.int i) (.int j) H Q := ⟨rfl, by rw [dec_int]; rw [show (i == j) = decide (i = j) from Bool.beq_eq_decide_eq i j]; exact q⟩
theorem r_eq_str {i j : Str} (q : Q (.bl (decide (i = j))) H) : rEq (.str i) (.str j) H Q := ⟨rfl, by rw [dec_str]; rw [show (i == j) = decide (i = j) from Bool.beq_eq_decide_eq i j]; exact q⟩
theorem r_len_lst {p : Addr} {xs : List V} (h : SqL K H p xs) (q : Q (.int xs.length) H) : rLen K [.ref p] H Q := .inl ⟨.ref p, xs.length, rfl, .inl ⟨xs, h, rfl⟩, q⟩
theorem r_len_tup {p : Addr} {xs : List V} (h : SqT K H p xs) (q : Q (.int xs.length) H) : rLen K [.ref p] H Q := .inl ⟨.ref p, xs.length, rfl, .inr ⟨xs, h, rfl⟩, q⟩
theorem r_len_dic {p : Addr} {kvs : List (Key × V)} (h : Rd H p (.dK kvs)) (q : Q (.int kvs.length) H) : rLen K [.ref p] H Q := .inr ⟨p, kvs, rfl, h, q⟩
theorem r_ix_lst {p : Addr} {xs : List V} {i : Int} {v : V} (h : SqL K H p xs) (e : atI xs i = some v) (q : Q v H) : rIxX K (.ref p) (.int i) H Q := .inl (.inl ⟨p, xs, i, v, rfl, rfl, h, e, q⟩)
theorem r_ix_tup {p : Addr} {xs : List V} {i : Int} {v : V} (h : SqT K H p xs) (e : atI xs i = some v) (q : Q v H) : rIxX K (.ref p) (.int i) H Q := .inl (.inr (.inl ⟨p, xs, i, v, rfl, rfl, h, e, q⟩))
theorem r_ix_str {z : Str} {i : Int} {c : Nat} (hz : z.length ≤ sizeLine) (e : atI z.cps.toList i = some c) (q : Q (sgn c) H) : rIxX K (.str z) (.int i) H Q := .inl (.inr (.inr ⟨z, i, c, rfl, rfl, hz, e, q⟩))
theorem r_ix_dic {p : Addr} {y v : V} (g : DGet H p y (some v)) (q : Q v H) : rIxX K (.ref p) y H Q := .inr ⟨p, v, rfl, g, q⟩
theorem r_sl_lst {p : Addr} {xs : List V} {lo hi : Option Int} (h : SqL K H p xs) (q : ∀ p, H p = none → Q (.ref p) (upd H p (.lst (cutV xs lo hi)))) : rSl K (.ref p) lo hi H Q := .inl ⟨p, xs, rfl, h, q⟩
theorem r_cat {l b : Addr} {xs zs : List V} (h1 : H l = some (.lst xs)) (h2 : H b = some (.lst zs)) (hz : xs.length + zs.length ≤ sizeLine) (q : ∀ p, H p = none → Q (.ref p) (upd H p (.lst (xs ++ zs)))) : rAddX K (.ref l) (.ref b) H Q := .inr (.inr (.inl ⟨l, b, xs, zs, rfl, rfl, h1, h2, hz, q⟩))
theorem r_isi {x : V} {t T : String} (ty : TyB K H x t) (hT : T = "str" ∨ T = "int" ∨ T = "bool" ∨ T = "list" ∨ T = "tuple" ∨ T = "dict") (q : Q (.bl (isiB t T)) H) : rIsi K [x, .ty T] H Q := ⟨x, T, t, rfl, ty, hT, q⟩
theorem r_all {p : Addr} {bs : List Bool} (h : SqL K H p (bs.map V.bl)) (q : Q (.bl (bs.all id)) H) : rAll K [.ref p] H Q := ⟨p, bs, rfl, h, q⟩
theorem r_tup {t : TA} (q : t σ H fun xs H1 => xs.length ≤ sizeLine ∧ ∀ p, H1 p = none → Q (.ref p) (upd H1 p (.tup xs))) : tTup t σ H Q := q
theorem r_lst {t : TA} (q : t σ H fun xs H1 => xs.length ≤ sizeLine ∧ ∀ p, H1 p = none → Q (.ref p) (upd H1 p (.lst xs))) : tLst t σ H Q := q
theorem r_seq {t u : TS} (q : t ⟨u ⟨nx, rt, bk, ct⟩, rt, bk, ct⟩ σ H) : tSeq t u ⟨nx, rt, bk, ct⟩ σ H := q
theorem r_next (q : nx σ H) : tNext ⟨nx, rt, bk, ct⟩ σ H := q
theorem r_ret {te : TE} (q : te σ H rt) : tRet te ⟨nx, rt, bk, ct⟩ σ H := q
theorem r_drop {te : TE} (q : te σ H fun _ H1 => nx σ H1) : tDrop te ⟨nx, rt, bk, ct⟩ σ H := q
theorem r_ifS {c : TT} {t u : TS} (q : c σ H fun b H1 => if b = true then t ⟨nx, rt, bk, ct⟩ σ H1 else u ⟨nx, rt, bk, ct⟩ σ H1) : tIfS c t u ⟨nx, rt, bk, ct⟩ σ H := q
theorem r_asg {te : TE} {g : TG} (q : te σ H fun x H1 => g x σ H1 nx) : tAsg te g ⟨nx, rt, bk, ct⟩ σ H := q
theorem r_name {i : Nat} {v : V} {Qs : St → Hp → Prop} (q : Qs (σ.set i (some v)) H) : gName i v σ H Qs := q
end
end L2
set_option Elab.async false
set_option linter.all false
set_option maxRecDepth 100000
set_option maxHeartbeats 4000000
namespace L2
open PySem PySem.Spec PyProof.Rows
section
variable {X : Cx} {pins : List (Addr × Obj)} {σ : St} {H : Hp} {s : Shared} {d : Addr} {kvs : List (Key × V)} {o : Obj}
abbrev frzD (d : Addr) (o : Obj) (kvs : List (Key × V)) (H : Hp) : Hp := upd H d (.frz o (.dK kvs))
theorem Inv.freeze (I : Inv X pins σ H s) (h : H d = some (.dK kvs)) (ho : s.heap.get? d = some o) : Inv X pins σ (frzD d o kvs H) s := by
  have nd : ∀ b u, H b = some u → u ≠ .dK kvs → b ≠ d := fun b u e n z => by
    subst z; rw [h] at e; exact n (Option.some.inj e).symm
  have hok : HOk X.prog X.w (frzD d o kvs H) s.heap := fun b u e => by
    have st : ∀ {a : Addr} {u : HO}, ObjOk X.prog X.w H s.heap a u → ObjOk X.prog X.w (frzD d o kvs H) s.heap a u := fun {a u} x =>
      x.stay (fun c v _ q => q) (fun c q => by unfold frzD; rw [upd_ne (nd c _ q (by intro z; cases z))]; exact q) fun c xs q => by unfold frzD; rw [upd_ne (nd c _ q (by intro z; cases z))]; exact q
    by_cases hb : b = d
    · subst hb
      unfold frzD at e
      rw [upd_same] at e
      cases e
      exact ⟨ho, st (I.hok _ _ h)⟩
    · unfold frzD at e
      rw [upd_ne hb] at e
      exact st (I.hok b u e)
  have q := I.un (H' := frzD d o kvs H) (h' := s.heap) (t' := s.toks) ⟨fun b o e n hb hx => e, fun b o e n hb hx => ⟨o.slots, e⟩, fun b o e n hx => by
    unfold frzD; rw [upd_ne (fun z => by subst z; rw [h] at n; cases n)]; exact n, fun b o e _ => ⟨o, e⟩, fun b xs e => by unfold frzD; rw [upd_ne (nd b _ e (by intro z; cases z))]; exact e,
    fun b o u e => by unfold frzD; rw [upd_ne (nd b _ e (by intro z; cases z))]; exact e, fun b ps e => ⟨#[], by unfold frzD; rw [upd_ne (nd b _ e (by intro z; cases z))]; simpa using e⟩⟩ hok
  exact q
def thawO : Option HO → Option HO
  | some (.frz _ u) => some u
  | o => o
def thaw (d : Addr) (H : Hp) : Hp := fun b => if b = d then thawO (H d) else H b
theorem thaw_ne {b : Addr} (h : b ≠ d) : thaw d H b = H b := by unfold thaw; rw [if_neg h]
theorem thaw_at {u : HO} (h : H d = some (.frz o u)) : thaw d H d = some u := by unfold thaw; rw [if_pos rfl, h]; rfl
theorem thaw_frz {u : HO} (h : H d = some (.frz o u)) : thaw d H = upd H d u := by
  funext b
  by_cases hb : b = d
  · subst hb; rw [thaw_at h, upd_same]
  · rw [thaw_ne hb, upd_ne hb]
theorem thaw_id (h : ∀ o u, H d ≠ some (.frz o u)) : thaw d H = H := by
  funext b
  by_cases hb : b = d
  · subst hb
    unfold thaw
    rw [if_pos rfl]
    cases q : H b with
    | none => rfl
    | some u => cases u with
      | frz o u => exact absurd q (h o u)
      | _ => rfl
  · exact thaw_ne hb
def ThOk (X : Cx) (th : Hp → Hp) : Prop := ∀ (pins : List (Addr × Obj)) (σ : St) (H : Hp) (s : Shared), Inv X pins σ H s → Inv X pins σ (th H) s
theorem thOk_id : ThOk X id := fun _ _ _ _ I => I
theorem thOk_thaw (hn : ∀ o u, X.H₀ d ≠ some (.frz o u)) : ThOk X (thaw d) := fun pins σ H s I => by
  by_cases hf : ∃ o u, H d = some (.frz o u)
  · obtain ⟨o, u, h⟩ := hf
    rw [thaw_frz h]
    have nd : ∀ b v, H b = some v → v ≠ .frz o u → b ≠ d := fun b v e n z => by
      subst z; rw [h] at e; exact n (Option.some.inj e).symm
    have nn : ∀ b, H b = none → b ≠ d := fun b e z => by subst z; rw [h] at e; cases e
    have st : ∀ {a : Addr} {v : HO}, ObjOk X.prog X.w H s.heap a v → ObjOk X.prog X.w (upd H d u) s.heap a v := fun {a v} x =>
      x.stay (fun c v _ q => q) (fun c q => by rw [upd_ne (nd c _ q (by intro z; cases z))]; exact q) fun c xs q => by rw [upd_ne (nd c _ q (by intro z; cases z))]; exact q
    refine ⟨I.ok, I.os, I.bare, ⟨I.base.keep, I.base.slot, fun b ob e n hx => ?_, I.base.there, fun b xs e => ?_, fun b ob v e => ?_, fun b ps e => ?_⟩, I.loc, I.cell, ?_, fun x c e => ?_, fun p hp => ?_, fun b v e => ?_, I.len⟩
    · have q := I.base.free b ob e n hx
      rw [upd_ne (nn b q)]; exact q
    · have q := I.base.tups b xs e
      rw [upd_ne (nd b _ q (by intro z; cases z))]; exact q
    · have q := I.base.frzs b ob v e
      rw [upd_ne (fun z => by subst z; exact hn ob v e)]; exact q
    · obtain ⟨m, q⟩ := I.base.tbls b ps e
      exact ⟨m, by rw [upd_ne (nd b _ q (by intro z; cases z))]; exact q⟩
    · rw [upd_ne (nn _ I.free)]; exact I.free
    · have q := I.freeC x c e
      rw [upd_ne (nn _ q)]; exact q
    · obtain ⟨a1, a2, a3⟩ := I.pin p hp
      exact ⟨a1, by rw [upd_ne (nn _ a2)]; exact a2, a3⟩
    · by_cases hb : b = d
      · subst hb
        rw [upd_same] at e
        cases e
        exact st (I.hok _ _ h).2
      · rw [upd_ne hb] at e
        exact st (I.hok b v e)
  · rw [thaw_id fun o u e => hf ⟨o, u, e⟩]; exact I
theorem Same.thaw {H H' : Hp} (h : H d = some (.dK kvs)) (e : Same (frzD d o kvs H) H') : Same H (thaw d H') := fun b u q => by
  by_cases hb : b = d
  · subst hb
    rw [h] at q; cases q
    have z := e b _ (show frzD b o kvs H b = some _ from upd_same)
    exact thaw_at z
  · rw [thaw_ne hb]
    exact e b u (by unfold frzD; rw [upd_ne hb]; exact q)
end
abbrev TI2 := St → Hp → (It → (Hp → Hp) → Hp → Prop) → Prop
def PI2 (X : Cx) (tg iter : Expr) (wi : TI2) : Prop :=
  ∀ (pins : List (Addr × Obj)) (s : Shared) (σ : St) (H : Hp) (R : It → (Hp → Hp) → Hp → Prop), Inv X pins σ H s → wi σ H R →
    wpAny (model X.prog X.w) X.A (eval iter X.env) (fun v s1 => wpAny (model X.prog X.w) X.A (pyIter v) (PIE X pins σ tg fun J H' => ∃ th, ThOk X th ∧ R J th H') X.xe s1) X.xe s
theorem PI.two {X : Cx} {tg iter : Expr} {wi : TI} (h : PI X tg iter wi) : PI2 X tg iter (fun σ H R => wi σ H fun J H' => R J id H') := by
  intro pins s σ H R I q
  refine thn (h pins s σ H _ I q) fun v s1 h1 => thn h1 fun itv s2 h2 => ?_
  obtain ⟨it, fp, tn, J, H', e, I', T, st, f, q⟩ := h2
  exact ⟨it, fp, tn, J, H', e, I', T, st, f, id, thOk_id, q⟩
def ForW (J : It) (th : Hp → Hp) (g : TG) (tb : TS) (nx : St → Hp → Prop) (rt : VK) (σ : St) (H1 : Hp) : Prop := ∃ W : Nat → Nat → St → Hp → Prop, (∃ m, W 0 m σ H1) ∧ ∀ i m σ H, W i m σ H →
  (J.stop i H ∧ nx σ (th H)) ∨ (J.go i H ∧ ∃ N : St → Hp → Prop, (∀ σ' H', N σ' H' → ∃ m', m' < m ∧ W (i + 1) m' σ' H') ∧ ∀ x H', J.yld i H x H' → g x σ H' fun σ2 H2 => tb ⟨N, fun v H => rt v (th H), fun σ H => nx σ (th H), N⟩ σ2 H2)
def tFor2 (wi : TI2) (g : TG) (tb : TS) : TS := fun D σ H => wi σ H fun J th H1 => ForW J th g tb D.nx D.rt σ H1
theorem ps_for2 {X : Cx} {tg iter : Expr} {body : List Stmt} {wi : TI2} {g : TG} {tb : TS} {pos : Pos} (hp : PassesOwn (model X.prog X.w) X.A X.env X.xe) (hc : X.calm = true) (hi : PI2 X tg iter wi) (hg : PG X tg g) (hb : PSs X body tb)
    (hs : ∀ x, foldedSetIterable iter X.env x = pure x := by intro _; rfl) : PS X (.For tg iter body [] pos) (tFor2 wi g tb) := by
  intro pins s σ H D I h
  refine wpAny_For (thn (hi pins s σ H _ I h) fun v s1 h1 => thn h1 fun itv s2 h2 => ?_) hs
  obtain ⟨it, fp, tn, J, H2, e, I2, T, st2, f2, th, hth, W, ⟨m0, w0⟩, turn⟩ := h2
  subst e
  have stat : ∀ {H' : Hp}, (∀ b ∈ fp, H' b = none) → ∀ b ∈ fp, FpOk X pins H' b := fun hn b hb => ⟨hn b hb, (f2 b hb).2⟩
  refine codeAny_forLoop_any (fun n s' => ∃ i σ' H', Inv X pins σ' H' s' ∧ tn i s'.heap ∧ (∀ b ∈ fp, H' b = none) ∧ W i n σ' H') ?_ m0 ⟨0, σ, H2, I2, st2, fun b hb => (f2 b hb).1, w0⟩
  rintro n s3 ⟨i, σ3, H3, I3, st3, fr3, w3⟩
  rcases turn i n σ3 H3 w3 with ⟨stop, qn⟩ | ⟨go, N, hN, step⟩
  · refine wpAny_passesOwn hp (thn (T.done X rfl rfl rfl hc i pins s3 σ3 H3 X.xe I3 (stat fr3) st3 stop) fun r s4 ⟨hr, I4⟩ => ?_)
    subst hr
    exact wpAny_execs_nil ⟨σ3, th H3, hth _ _ _ _ I4, qn⟩
  · refine wpAny_passesOwn hp (thn (T.item X rfl rfl rfl hc i pins s3 σ3 H3 X.xe I3 (stat fr3) st3 go) fun r s4 ⟨u, hr, h4⟩ => ?_)
    subst hr
    refine wpAny_passesOwn hp (thn h4 fun _ s5 ⟨x, H5, I5, r5, y5, st5, fr5⟩ => ?_)
    have I5' := I5.pinned (stat fr5) (T.obj _ _ st5)
    refine wpAny_passesOwn hp (thn (hg _ s5 σ3 H5 x u _ I5' r5 (step x H5 y5)) fun _ s6 ⟨σ6, H6, I6, q6⟩ => ?_)
    refine wpAny_passesOwn hp (thn (hb _ s6 σ6 H6 _ I6 q6) fun f s7 q7 => ?_)
    have again : ∀ {σ7 : St} {H7 : Hp}, Inv X (pins ++ pinsAt fp s5.heap) σ7 H7 s7 → N σ7 H7 → ∃ m, m < n ∧ ∃ i σ' H', Inv X pins σ' H' s7 ∧ tn i s7.heap ∧ (∀ b ∈ fp, H' b = none) ∧ W i m σ' H' := fun {σ7 H7} I7 n7 => by
      obtain ⟨m', hm, w7⟩ := hN σ7 H7 n7
      refine ⟨m', hm, i + 1, σ7, H7, I7.unpinned, T.keep _ _ _ st5 fun b hb o e => (I7.pin (b, o) (List.mem_append_right _ (List.mem_append_right _ (mem_pinsAt hb e)))).1, fun b hb => ?_, w7⟩
      obtain ⟨o, e, d⟩ := T.obj _ _ st5 b hb
      exact (I7.pin (b, o) (List.mem_append_right _ (List.mem_append_right _ (mem_pinsAt hb e)))).2.1
    cases f with
    | next => obtain ⟨σ7, H7, I7, n7⟩ := q7; exact again I7 n7
    | cont => obtain ⟨σ7, H7, I7, n7⟩ := q7; exact again I7 n7
    | brk => obtain ⟨σ7, H7, I7, q7⟩ := q7; exact ⟨σ7, th H7, hth _ _ _ _ I7.unpinned, q7⟩
    | ret v => obtain ⟨x7, σ7, H7, I7, r7, q7⟩ := q7; exact ⟨x7, σ7, th H7, hth _ _ _ _ I7.unpinned, r7, q7⟩
def CompW (own : List Str) (js : List Nat) (J : It) (th : Hp → Hp) (g : TG) (ti : TT) (te : TE) (Q : VK) (σ : St) (H1 : Hp) : Prop := ∃ W : Nat → Nat → List V → Hp → Prop, (∃ m, W 0 m [] H1) ∧ ∀ i m out H, W i m out H →
  (J.stop i H ∧ ∀ D, H D = none → out.length ≤ sizeLine ∧ Q (.ref D) (th (upd H D (.lst out)))) ∨
  (J.go i H ∧ ∀ x H', J.yld i H x H' → g x (stB own js σ) H' fun σ2 H2 => σ2.drop own.length = js.map (fun j => (σ[j]?).join) ∧ ti σ2 H2 fun b H3 =>
    if b = true then te σ2 H3 fun v H4 => out.length ≤ sizeLine ∧ ∃ m', m' < m ∧ W (i + 1) m' (out ++ [v]) H4 else ∃ m', m' < m ∧ W (i + 1) m' out H3)
def tComp2 (own : List Str) (js : List Nat) (wi : TI2) (g : TG) (ti : TT) (te : TE) : TE := fun σ H Q => wi σ H fun J th H1 => CompW own js J th g ti te Q σ H1
def tIf0 : TT := fun _ H Q => Q true H
theorem pif00 {X : Cx} : PIfs X [] tIf0 := pif0
theorem pe_lcomp2 {X : Cx} {own : List Str} {js : List Nat} {scope : Scope} {tg iter elt : Expr} {ifs : List Expr} {pos : Pos} {g : TG} {ti : TT} {te : TE} {wi : TI2} (S : scB X own js scope = true) (hc : X.calm = true) (hit : PI2 X tg iter wi)
    (hg : ∀ C s H fp, PG (cxB X own js scope C s H fp) tg g) (hi : ∀ C s H fp, PIfs (cxB X own js scope C s H fp) ifs ti) (he : ∀ C s H fp, PE (cxB X own js scope C s H fp) elt te)
    (hs : ∀ x, foldedSetIterable iter X.env x = pure x := by intro _; rfl) :
    PE X (.ListComp elt [⟨tg, iter, ifs, 0⟩] scope pos) (tComp2 own js wi g ti te) := by
  have SB := scB_of S
  intro pins s σ H Q I h
  rw [eval_ListComp]
  refine wpAny_comprehension_free (use := none) rfl hs (closure_eq (SB.cells I)) SB.kind SB.names (thn (hit pins s σ H _ I h) fun v s1 h1 => thn h1 fun itv s2 h2 => ?_)
  obtain ⟨it, fp, tn, J, H2, e, I2, T, st2, f2, th, hth, W, ⟨m0, w0⟩, turn⟩ := h2
  subst e
  refine wpAny_newObj_type (wpAny_newFunctionEnv SB.nocell (by intro y hy; simp at hy) (fun h₁ hns₁ hsb₁ => ?_) SB.kind)
  dsimp only at hns₁ hsb₁ ⊢
  generalize hH2 : s2.heap.push { cls := .type "list", dict := none, data := .seq ([] : List Value).toArray } = G2 at hns₁ hsb₁ ⊢
  have hCs : G2.objs.size = s2.heap.objs.size + 1 := by rw [← hH2, Heap.size_push]
  have hDC : s2.heap.objs.size ≠ G2.objs.size := by rw [hCs]; exact Nat.ne_of_lt (Nat.lt_succ_self _)
  have hC : s2.heap.objs.size ≤ G2.objs.size := by rw [hCs]; exact Nat.le_succ _
  have old : ∀ b o, s2.heap.get? b = some o → h₁.get? b = some o := fun b o e =>
    hsb₁.extBut b o (Nat.ne_of_lt (Nat.lt_of_lt_of_le (Heap.lt_size e) hC)) (Heap.get?_push_of_some _ (hH2 ▸ Heap.get?_push_of_some _ e))
  have hob : ∀ b ∈ fp, ∃ o, s2.heap.get? b = some o := fun b hb => let ⟨o, e, _⟩ := T.obj _ _ st2 b hb; ⟨o, e⟩
  have hacc : h₁.get? s2.heap.objs.size = some { cls := .type "list", data := .seq ([] : List Value).toArray } :=
    hsb₁.extBut _ _ hDC (Heap.get?_push_of_some _ (hH2 ▸ Heap.get?_push_size _ rfl))
  have loop : ∀ s3 : Shared, s3 = { s2 with heap := h₁, toks := s2.toks + ([] : List (Str × Value)).length } →
      codeAny (model X.prog X.w) X.A (.compLoop (.ListComp elt [⟨tg, iter, ifs, 0⟩] scope pos) 0 (.ref it) (.ref s2.heap.objs.size) (compEnvC scope (clOf scope X.env) G2.objs.size X.env))
        (compPost (model X.prog X.w) X.A X.xe none (EP X pins σ Q) (.ref s2.heap.objs.size) G2.objs.size) s3 := by
    rintro s3 rfl
    refine comp_loop (K := fun out H' => Q (.ref s2.heap.objs.size) (th (upd H' s2.heap.objs.size (.lst out)))) SB hc T I2 f2 (Nat.le_refl _) hC hDC hob (hg _ _ _ _) (hi _ _ _ _) (he _ _ _ _) W (fun i m out H' w => ?_) (fun out H' s' B hl k => ?_) w0
      ⟨Inv.block SB I2 f2 hob hC hns₁ old, I2.hok.fresh (Nat.le_refl _), [], _, .nil, hacc⟩ (T.keep _ _ _ st2 fun b _ o e => old b o e) (fun b hb => (f2 b hb).1)
    · rcases turn i m out H' w with ⟨a, b⟩ | c
      · exact .inl ⟨a, fun n => b _ n⟩
      · exact .inr c
    · obtain ⟨mm, hn, _⟩ := B.inv.loc
      exact ⟨mm, hn, fun h' sb => ⟨.ref s2.heap.objs.size, _, hth _ _ _ _ (B.out I2 f2 (Nat.le_refl _) hC hDC hl sb), rfl, k⟩⟩
  exact codeAny_compStart_list (loop _ rfl) (T.self _ 0 _ _ _ (T.keep _ _ _ st2 fun b _ o e => old b o e) (loop _ rfl))
theorem paired_get {α β : Type} {F : α → β → Prop} : ∀ {l₁ : List α} {l₂ : List β} {i : Nat} {a : α}, Paired F l₁ l₂ → l₁[i]? = some a → ∃ b, l₂[i]? = some b ∧ F a b
 := by
  intro l₁ l₂ i a hp e
  induction hp generalizing i with
  | nil => cases e
  | cons r _ ih => cases i with
    | zero => cases e; exact ⟨_, rfl, r⟩
    | succ i => exact ih e
section
variable {P : Program} {w : World}
theorem key_rel {k : Key} {v : Value} (h : (mixKind P w).is k v = true) : RelV (kV k) v := by
  rcases keyIs_shape (show keyIs k v = true from h) with ⟨i, t, rfl, rfl⟩ | ⟨x, t, rfl, rfl⟩
  · exact ⟨t, rfl⟩
  · exact ⟨t, rfl⟩
theorem key_flat {k : Key} {v : Value} (h : (mixKind P w).is k v = true) : ∀ a, v ≠ .ref a := by
  rcases keyIs_shape (show keyIs k v = true from h) with ⟨i, t, rfl, rfl⟩ | ⟨x, t, rfl, rfl⟩ <;> exact fun a z => by cases z
structure DObj (P : Program) (w : World) (d : Addr) (o : Obj) (kvs : List (Key × V)) (vs : List (Key × Value)) (ep : Nat) : Prop where
  kv : KV kvs vs
  at_ : ∀ h : Heap, h.get? d = some o → h.DictAt (mixKind P w) d vs ep
  nd : (kvs.map (·.1)).Nodup
theorem dobj_of {H : Hp} {h : Heap} {d : Addr} {kvs : List (Key × V)} (ok : HOk P w H h) (e : Rd H d (.dK kvs)) : (d == sysModules) = false ∧ ∃ o vs ep, h.get? d = some o ∧ DObj P w d o kvs vs ep := by
  obtain ⟨z, hd, vs, rel, o, es, ep, h1, r⟩ := dk_rd ok e
  refine ⟨hd, o, vs, ep, h1, rel, fun h' e' => ⟨o, es, e', r⟩, ?_⟩
  rw [KV.keys rel]
  exact r.2.2.2.2
def Itd (d : Addr) (o : Obj) (kvs : List (Key × V)) (f : Key × V → V) : It :=
  ⟨fun i H => H d = some (.frz o (.dK kvs)) ∧ i < kvs.length, fun i H x H' => H' = H ∧ ∃ kv, kvs[i]? = some kv ∧ x = f kv, fun i H => H d = some (.frz o (.dK kvs)) ∧ kvs.length ≤ i⟩
def Iti (d : Addr) (o : Obj) (kvs : List (Key × V)) : It :=
  ⟨fun i H => H d = some (.frz o (.dK kvs)) ∧ i < kvs.length, fun i H x H' => ∃ t kv, kvs[i]? = some kv ∧ H t = none ∧ x = .ref t ∧ H' = upd H t (.tup [kV kv.1, kv.2]), fun i H => H d = some (.frz o (.dK kvs)) ∧ kvs.length ≤ i⟩
theorem turn_keys {K : PySem.W.Frag} {tg : Expr} {d : Addr} {o : Obj} {kvs : List (Key × V)} {vs : List (Key × Value)} {ep : Nat} (D : DObj P w d o kvs vs ep) (it : Addr) :
    Turn P w K tg (Itd d o kvs fun kv => kV kv.1) [it] it (fun i h => h.IsKeyIter it d i vs.length ep) where
  mem := by simp
  obj := fun i h st b hb => by
    have e : b = it := by simpa using hb
    subst e
    obtain ⟨o, e, c, dd⟩ := st
    exact ⟨o, e, fun v z => by rw [dd] at z; cases z⟩
  keep := fun i h h' st k => st.at fun o e => k it (by simp) o e
  item := by
    intro X hP hw hK hc i pins s σ H E I hf st hg
    subst hP hw hK
    obtain ⟨hfz, hi⟩ := hg
    obtain ⟨f0, f1, f2, f3, f4, f5⟩ := hf it (by simp)
    have dat := D.at_ s.heap (I.hok d _ hfz).1
    have hl := KV.length D.kv
    obtain ⟨kv, hkv⟩ : ∃ kv, kvs[i]? = some kv := ⟨kvs[i], by simp [hi]⟩
    obtain ⟨⟨k, x⟩, hx⟩ : ∃ p, vs[i]? = some p := ⟨vs[i]'(by lia), by simp [show i < vs.length by lia]⟩
    have hkk : kv.1 = k := by
      have e1 : (kvs.map (·.1))[i]? = some kv.1 := by rw [List.getElem?_map, hkv]; rfl
      rw [KV.keys D.kv, List.getElem?_map, hx] at e1
      exact (Option.some.inj e1).symm
    refine wpAny_pyNext_dict_item st dat hx fun key h' hkey hit' hs' => ?_
    have I1 : Inv X pins σ H { s with heap := h' } := I.turned (t' := s.toks) (fun b o hb e => hs'.extBut b o hb e) f0 f1 f3 f4 f5
    exact ⟨key, rfl, go_flat (key_flat hkey) ⟨kV kv.1, H, I1, by rw [hkk]; exact key_rel hkey, ⟨rfl, kv, hkv, rfl⟩, hit', fun b hb => (hf b hb).1⟩⟩
  done := by
    intro X hP hw hK hc i pins s σ H E I hf st hg
    subst hP hw hK
    obtain ⟨hfz, hi⟩ := hg
    obtain ⟨f0, f1, f2, f3, f4, f5⟩ := hf it (by simp)
    have dat := D.at_ s.heap (I.hok d _ hfz).1
    have hl := KV.length D.kv
    exact wpAny_pyNext_dict_end (I.ok.hd hc) st dat (by simp; lia) fun h' eb => ⟨rfl, I.turned (t' := s.toks) (fun b o hb e => eb b o hb e) f0 f1 f3 f4 f5⟩
  self := fun _ _ _ _ _ st h => wpAny_pyIter_keyiter st h
theorem turn_items {K : PySem.W.Frag} {elts : List Expr} {x1} {tpos : Pos} {d : Addr} {o : Obj} {kvs : List (Key × V)} {vs : List (Key × Value)} {ep : Nat} (D : DObj P w d o kvs vs ep) (it : Addr) :
    Turn P w K (.Tuple elts x1 tpos) (Iti d o kvs) [it] it (fun i h => ∃ ok ov, IsItemIter h it d i vs.length ep ok ov) where
  mem := by simp
  obj := fun i h st b hb => by
    have e : b = it := by simpa using hb
    subst e
    obtain ⟨ok, ov, e⟩ := st
    exact ⟨_, e, fun v z => by
      have z' : Data.fields _ = Data.cell v := z
      cases z'⟩
  keep := fun i h h' st k => let ⟨ok, ov, e⟩ := st; ⟨ok, ov, k it (by simp) _ e⟩
  item := by
    intro X hP hw hK hc i pins s σ H E I hf st hg
    subst hP hw hK
    obtain ⟨hfz, hi⟩ := hg
    obtain ⟨ok, ov, st⟩ := st
    obtain ⟨f0, f1, f2, f3, f4, f5⟩ := hf it (by simp)
    have dat := D.at_ s.heap (I.hok d _ hfz).1
    have hl := KV.length D.kv
    obtain ⟨kv, hkv⟩ : ∃ kv, kvs[i]? = some kv := ⟨kvs[i], by simp [hi]⟩
    obtain ⟨⟨k, x⟩, hx⟩ : ∃ p, vs[i]? = some p := ⟨vs[i]'(by lia), by simp [show i < vs.length by lia]⟩
    obtain ⟨hkk, rx⟩ : kv.1 = k ∧ RelV kv.2 x := by
      have q := paired_get D.kv hkv
      obtain ⟨p, hp, r⟩ := q
      rw [hx] at hp; cases hp
      exact r
    refine wpAny_pyNext_items_item st dat hx fun key h' hkey hout htup hsz hk => ?_
    have hitlt : it < s.heap.objs.size := Heap.lt_size st
    refine ⟨.ref s.heap.objs.size, rfl, wpAny_letOwnedTupleGo_items (s := { s with heap := h' }) hout fun h'' hit'' hs'' => ?_⟩
    have hs2 : Heap.SameBut it h' h'' := hs''
    have kp : ∀ b o, b ≠ it → s.heap.get? b = some o → h''.get? b = some o := fun b o hb e => hs2.extBut b o hb (hk b o hb e)
    have tupAt : h''.get? s.heap.objs.size = some { cls := .type "tuple", data := .seq #[key, x] } := hs2.extBut _ _ (Nat.ne_of_gt hitlt) htup
    have fresh : H s.heap.objs.size = none := I.hok.fresh (Nat.le_refl _)
    have nsz : ∀ b o, s.heap.get? b = some o → b ≠ s.heap.objs.size := fun b o e => Nat.ne_of_lt (Heap.lt_size e)
    have hH : ∀ b u, H b = some u → b ≠ s.heap.objs.size ∧ b ≠ it := fun b u e => ⟨ne_of_none e fresh, ne_of_none e f0⟩
    have hok : HOk X.prog X.w (upd H s.heap.objs.size (.tup [kV kv.1, kv.2])) h'' := fun b u e => by
      by_cases hb : b = s.heap.objs.size
      · subst hb
        rw [upd_same] at e; cases e
        refine ⟨by show 2 ≤ sizeLine; decide, [key, x], .cons (by rw [hkk]; exact key_rel hkey) (.cons rx .nil), ⟨_, tupAt, rfl, _, rfl⟩⟩
      · rw [upd_ne hb] at e
        refine (I.hok b u e).stay (fun c v hc q => kp c v ?_ q) (fun c q => by rw [upd_ne (hH c _ q).1]; exact q) fun c xs q => by rw [upd_ne (hH c _ q).1]; exact q
        rcases hc with z | z
        · rw [z]; exact (hH b _ e).2
        · exact (hH c _ z).2
    have I1 : Inv X pins σ (upd H s.heap.objs.size (.tup [kV kv.1, kv.2])) { s with heap := h'' } := by
      refine I.call' (s' := { s with heap := h'' }) (ch := [it]) rfl ⟨fun b o e n hb hx => kp b o (by simpa using hx) e, fun b o e n hb hx => ⟨o.slots, kp b o (by simpa using hx) e⟩, fun b o e n hx => by rw [upd_ne (nsz b o e)]; exact n,
        fun b o e hx => ⟨o, kp b o (by simpa using hx) e⟩, fun b xs e => by rw [upd_ne (hH b _ e).1]; exact e, fun b ob v e => by rw [upd_ne (hH b _ e).1]; exact e, fun b ps e => ⟨#[], by rw [upd_ne (hH b _ e).1]; simpa using e⟩⟩ hok I.bare fun b hb => ?_
      have e : b = it := by simpa using hb
      subst e
      exact ⟨f3, f1, f4, f5⟩
    refine ⟨.ref s.heap.objs.size, _, I1, rfl, ⟨_, kv, hkv, fresh, rfl, rfl⟩, ⟨_, _, hit''⟩, fun b hb => ?_⟩
    have e : b = it := by simpa using hb
    subst e
    rw [upd_ne (Nat.ne_of_lt hitlt)]; exact f0
  done := by
    intro X hP hw hK hc i pins s σ H E I hf st hg
    subst hP hw hK
    obtain ⟨hfz, hi⟩ := hg
    obtain ⟨ok, ov, st⟩ := st
    obtain ⟨f0, f1, f2, f3, f4, f5⟩ := hf it (by simp)
    have dat := D.at_ s.heap (I.hok d _ hfz).1
    have hl := KV.length D.kv
    exact wpAny_pyNext_items_end (I.ok.hd hc) st dat (by simp; lia) fun h' eb => ⟨rfl, I.turned (t' := s.toks) (fun b o hb e => eb b o hb e) f0 f1 f3 f4 f5⟩
  self := fun _ _ _ _ _ st h => by
    obtain ⟨ok, ov, st⟩ := st
    exact PySem.W.kcp_self st h
end
section
variable {X : Cx} {tg : Expr}
def rIterD (mk : Addr → Obj → List (Key × V) → It) (v : V) (H : Hp) (R : It → (Hp → Hp) → Hp → Prop) : Prop :=
  ∃ d kvs, v = .ref d ∧ ((H d = some (.dK kvs) ∧ ((kvs.map (·.1)).Nodup → ∀ o, R (mk d o kvs) (thaw d) (frzD d o kvs H))) ∨ (∃ o, H d = some (.frz o (.dK kvs)) ∧ ((kvs.map (·.1)).Nodup → R (mk d o kvs) id H)))
theorem rIterD.go {mk : Addr → Obj → List (Key × V) → It} {x : V} {u : Value} {pins : List (Addr × Obj)} {σ : St} {H : Hp} {s : Shared} {R : It → (Hp → Hp) → Hp → Prop} (I : Inv X pins σ H s) (r : RelV x u) (h : rIterD mk x H R) :
    ∃ d kvs o vs ep th H', u = .ref d ∧ (d == sysModules) = false ∧ s.heap.get? d = some o ∧ DObj X.prog X.w d o kvs vs ep ∧ Inv X pins σ H' s ∧ ThOk X th ∧ R (mk d o kvs) th H' := by
  obtain ⟨d, kvs, e, h⟩ := h
  subst e
  cases r
  rcases h with ⟨h, q⟩ | ⟨o, h, q⟩
  · obtain ⟨hd, o, vs, ep, ho, D⟩ := dobj_of I.hok (.inl h)
    refine ⟨d, kvs, o, vs, ep, thaw d, _, rfl, hd, ho, D, I.freeze h ho, thOk_thaw fun ob v z => ?_, q D.nd o⟩
    have z' := I.base.frzs d ob v z
    rw [h] at z'; cases z'
  · obtain ⟨hd, o', vs, ep, ho, D⟩ := dobj_of I.hok (.inr ⟨o, h⟩)
    have e := (I.hok d _ h).1
    rw [ho] at e; cases e
    exact ⟨d, kvs, _, vs, ep, id, H, rfl, hd, ho, D, I, thOk_id, q D.nd⟩
theorem rIter.mono {K : PySem.W.Frag} {v : V} {H : Hp} {R R' : It → Hp → Prop} (h : rIter K v H R) (k : ∀ J H, R J H → R' J H) : rIter K v H R' := by
  rcases h with ⟨a, e, hq, q⟩ | ⟨a, e, hq, q⟩ | ⟨x, e, q⟩
  · exact .inl ⟨a, e, hq, k _ _ q⟩
  · exact .inr (.inl ⟨a, e, hq, k _ _ q⟩)
  · exact .inr (.inr ⟨x, e, k _ _ q⟩)
abbrev ItK (d : Addr) (o : Obj) (kvs : List (Key × V)) : It := Itd d o kvs fun kv => kV kv.1
def rIt2 (K : PySem.W.Frag) (v : V) (H : Hp) (R : It → (Hp → Hp) → Hp → Prop) : Prop := rIter K v H (fun J H' => R J id H') ∨ rIterD ItK v H R
def iIt (K : PySem.W.Frag) (tl : TE) : TI2 := fun σ H R => tl σ H fun v H1 => rIt2 K v H1 R
theorem pi_it {l : Expr} {tl : TE} (hl : PE X l tl) : PI2 X tg l (iIt X.K tl) := by
  intro pins s σ H R I h
  refine thn (hl pins s σ H _ I h) fun v s1 ⟨x, H1, I1, r1, q1⟩ => ?_
  rcases q1 with q1 | q1
  · exact iter_any I1 r1 (q1.mono fun J H' q => ⟨id, thOk_id, q⟩)
  · obtain ⟨d, kvs, o, vs, ep, th, H', rfl, hd, ho, D, I2, hth, q⟩ := rIterD.go I1 r1 q1
    refine wpAny_pyIter_dict hd (D.at_ _ ho) ?_
    refine ⟨s1.heap.objs.size, [s1.heap.objs.size], _, _, H', rfl, I2.kept (t' := s1.toks) fun b o e => Heap.get?_push_of_some _ e, turn_keys D _, ⟨_, Heap.get?_push_size _ rfl, rfl, rfl⟩, fun b hb => ?_, th, hth, q⟩
    have e : b = s1.heap.objs.size := by simpa using hb
    subst e
    exact I2.fpOk (Nat.le_refl _) (I2.hok.fresh (Nat.le_refl _))
def iItems (tl : TE) : TI2 := fun σ H R => tl σ H fun v H1 => rIterD Iti v H1 R
theorem pi_items {elts : List Expr} {x1} {tpos : Pos} {o : Expr} {tl : TE} {apos cpos : Pos} (ho : PE X o tl)
    (hbase : attributeBase o "items" X.env (eval o X.env) = eval o X.env := by rfl) (hline : (apos.endLine == cpos.line) = true := by rfl) :
    PI2 X (.Tuple elts x1 tpos) (.Call (.Attribute o "items" apos) [] [] cpos) (iItems tl) := by
  intro pins s σ H R I h
  refine wpAny_Call_method0_late hbase hline (thn (ho pins s σ H _ I h) fun v s1 ⟨x, H1, I1, r1, q1⟩ => ?_)
  obtain ⟨d, kvs, ob, vs, ep, th, H', rfl, hd, hob, D, I2, hth, q⟩ := rIterD.go I1 r1 q1
  have dof := (D.at_ _ hob).dictOf
  refine ⟨"dict", "dict.items", F.plainAttrs_dict, F.slot_dict_items, F.type_dict_items, dof.typeIs, dof.mapOf.noDict, Calls.callWith_builtin rfl (PySem.evalArgs_none ?_)⟩
  refine call_meetsIn F.slot_dict_items dof.typeIs F.entry_dict_items (F.args_dict_items_1 _) (meets_dict_items (mixKind X.prog X.w) d hd) ⟨⟨vs, dof⟩, ?_⟩
  have I3 : Inv X pins σ H' { s1 with heap := s1.heap.push { cls := .type "dict_items", data := .fields #[.ref d] } } := I2.kept (t' := s1.toks) fun b o e => Heap.get?_push_of_some _ e
  refine wpAny_pyIter_items (s := { s1 with heap := s1.heap.push { cls := .type "dict_items", data := .fields #[.ref d] } }) (knd := mixKind X.prog X.w) ⟨_, Heap.get?_push_size _ rfl, rfl, rfl⟩ (D.at_ _ (Heap.get?_push_of_some _ hob)) ?_
  generalize hG : s1.heap.push { cls := .type "dict_items", data := .fields #[.ref d] } = G at I3 ⊢
  refine ⟨G.objs.size, [G.objs.size], _, _, H', rfl, I3.kept (t' := s1.toks) fun b o e => Heap.get?_push_of_some _ e, turn_items D _, ⟨.none, .none, Heap.get?_push_size _ rfl⟩, fun b hb => ?_, th, hth, q⟩
  have e : b = G.objs.size := by simpa using hb
  subst e
  exact I3.fpOk (Nat.le_refl _) (I3.hok.fresh (Nat.le_refl _))
end
end L2
set_option Elab.async false
set_option linter.all false
set_option maxRecDepth 100000
set_option maxHeartbeats 4000000
namespace L2
open PySem PySem.Spec PyProof.Rows
section
variable {J : It} {th : Hp → Hp} {n : Nat} {g : TG} {tb : TS} {nx bk ct : St → Hp → Prop} {rt : VK} {σ : St} {H : Hp} {own : List Str} {js : List Nat} {ti : TT} {te : TE} {Q : VK} {K : PySem.W.Frag}
theorem for2_n (Pv : Nat → St → Hp → Prop) (h0 : Pv 0 σ H) (hgo : ∀ i σ H, i < n → Pv i σ H → J.go i H)
    (hs : ∀ i x σ H H', i < n → Pv i σ H → J.yld i H x H' → g x σ H' fun σ2 H2 => tb ⟨Pv (i + 1), fun v H => rt v (th H), fun σ H => nx σ (th H), Pv (i + 1)⟩ σ2 H2)
    (hd : ∀ σ H, Pv n σ H → J.stop n H ∧ nx σ (th H)) :
    ForW J th g tb nx rt σ H := by
  refine ⟨fun i m σ H => m = n - i ∧ i ≤ n ∧ Pv i σ H, ⟨n, by simp, Nat.zero_le _, h0⟩, ?_⟩
  rintro i m σ H ⟨rfl, hi, p⟩
  by_cases hlt : i < n
  · exact .inr ⟨hgo i σ H hlt p, Pv (i + 1), fun σ' H' p' => ⟨n - (i + 1), by lia, rfl, hlt, p'⟩, fun x H' y => hs i x σ H H' hlt p y⟩
  · have e : i = n := by lia
    subst e
    exact .inl (hd σ H p)
theorem comp2_n (Pv : Nat → List V → Hp → Prop) (h0 : Pv 0 [] H) (hgo : ∀ i out H, i < n → Pv i out H → J.go i H)
    (hs : ∀ (N : List V → Hp → Prop) i x out H H', i < n → Pv i out H → J.yld i H x H' → (∀ out' H', Pv (i + 1) out' H' → N out' H') → g x (stB own js σ) H' fun σ2 H2 => σ2.drop own.length = js.map (fun j => (σ[j]?).join) ∧ ti σ2 H2 fun b H3 =>
      if b = true then te σ2 H3 fun v H4 => out.length ≤ sizeLine ∧ N (out ++ [v]) H4 else N out H3)
    (hd : ∀ out H, Pv n out H → J.stop n H ∧ ∀ D, H D = none → out.length ≤ sizeLine ∧ Q (.ref D) (th (upd H D (.lst out)))) :
    CompW own js J th g ti te Q σ H := by
  refine ⟨fun i m out H => m = n - i ∧ i ≤ n ∧ Pv i out H, ⟨n, by simp, Nat.zero_le _, h0⟩, ?_⟩
  rintro i m out H ⟨rfl, hi, p⟩
  by_cases hlt : i < n
  · exact .inr ⟨hgo i out H hlt p, fun x H' y => hs (fun out' H' => ∃ m', m' < n - i ∧ m' = n - (i + 1) ∧ i + 1 ≤ n ∧ Pv (i + 1) out' H') i x out H H' hlt p y fun out' H' q => ⟨n - (i + 1), by lia, rfl, hlt, q⟩⟩
  · have e : i = n := by lia
    subst e
    exact .inl (hd out H p)
theorem r_for {wi : TI2} (q : wi σ H fun J th H1 => ForW J th g tb nx rt σ H1) : tFor2 wi g tb ⟨nx, rt, bk, ct⟩ σ H := q
theorem r_comp {wi : TI2} (q : wi σ H fun J th H1 => CompW own js J th g ti te Q σ H1) : tComp2 own js wi g ti te σ H Q := q
theorem r_if0 {Qb : Bool → Hp → Prop} (q : Qb true H) : tIf0 σ H Qb := q
theorem r_it {tl : TE} {R : It → (Hp → Hp) → Hp → Prop} (q : tl σ H fun v H1 => rIt2 K v H1 R) : iIt K tl σ H R := q
theorem r_it_lst {a : Addr} {xs : List V} {R : It → (Hp → Hp) → Hp → Prop} (h : SqL K H a xs) (q : R (Itl K a) id H) : rIt2 K (.ref a) H R := .inl (.inl ⟨a, rfl, ⟨xs, h⟩, q⟩)
theorem r_it_dic {d : Addr} {kvs : List (Key × V)} {R : It → (Hp → Hp) → Hp → Prop} (h : H d = some (.dK kvs)) (q : (kvs.map (·.1)).Nodup → ∀ o, R (ItK d o kvs) (thaw d) (frzD d o kvs H)) : rIt2 K (.ref d) H R :=
  .inr ⟨d, kvs, rfl, .inl ⟨h, q⟩⟩
theorem r_items {tl : TE} {R : It → (Hp → Hp) → Hp → Prop} (q : tl σ H fun v H1 => rIterD Iti v H1 R) : iItems tl σ H R := q
theorem r_items_dic {d : Addr} {kvs : List (Key × V)} {R : It → (Hp → Hp) → Hp → Prop} (h : H d = some (.dK kvs)) (q : (kvs.map (·.1)).Nodup → ∀ o, R (Iti d o kvs) (thaw d) (frzD d o kvs H)) : rIterD Iti (.ref d) H R := ⟨d, kvs, rfl, .inl ⟨h, q⟩⟩
theorem r_rng1 {ta : TA} {R : It → Hp → Prop} (q : ta σ H fun vs H1 => ∃ j : Int, vs = [.int j] ∧ -(2 ^ 62) ≤ j ∧ j < 2 ^ 62 ∧ R (Itr 0 j.toNat) H1) : iRng1 ta σ H R := q
theorem r_rng1v {i : Int} {R : Int → Prop} (h0 : 0 ≤ i) (h1 : i < 1000000) (q : R i) : ∃ j : Int, [V.int i] = [.int j] ∧ -(2 ^ 62) ≤ j ∧ j < 2 ^ 62 ∧ R j := ⟨i, rfl, by lia, by lia, q⟩
theorem r_ite {p : Prop} [Decidable p] {A B : Prop} (h1 : p → A) (h2 : ¬ p → B) : if decide p = true then A else B := by
  by_cases h : p
  · rw [if_pos (decide_eq_true h)]; exact h1 h
  · rw [if_neg (by simp [h])]; exact h2 h
theorem r_iteN {p : Prop} [Decidable p] {A B : Prop} (h1 : ¬ p → A) (h2 : p → B) : if (!decide p) = true then A else B := by
  by_cases h : p
  · rw [if_neg (by simp [h])]; exact h2 h
  · rw [if_pos (by simp [h])]; exact h1 h
theorem r_iteB {b : Bool} {A B : Prop} (h1 : b = true → A) (h2 : b = false → B) : if b = true then A else B := by
  cases b with
  | true => rw [if_pos rfl]; exact h1 rfl
  | false => rw [if_neg Bool.false_ne_true]; exact h2 rfl
theorem iteNT {A B : Prop} (h : B) : if (!true) = true then A else B := by rw [if_neg (by decide)]; exact h
theorem new_at {o : HO} {p : Addr} (hp : H p = none) : ∃ H', upd H p o = H' ∧ H' p = some o ∧ Same H H' ∧ ∀ b, b ≠ p → H' b = H b := ⟨_, rfl, upd_same, fun b u e => by rw [upd_ne (ne_of_none e hp)]; exact e, fun b hb => upd_ne hb⟩
theorem atI_in {α : Type} {xs : List α} {i : Int} (h0 : 0 ≤ i) (h1 : i < xs.length) : ∃ v, atI xs i = some v ∧ xs[i.toNat]? = some v := by
  obtain ⟨j, rfl⟩ := Int.eq_ofNat_of_zero_le h0
  have hj : j < xs.length := by lia
  exact ⟨xs[j], atI_nat (by simp [hj]), by simp [hj]⟩
theorem len_sgn (c : Nat) : (⟨#[c]⟩ : Str).length = 1 := rfl
theorem small {n : Nat} (h : n ≤ 1000) : n ≤ sizeLine := Nat.le_trans h (by decide)
theorem Same.rd {H H' : Hp} {a : Addr} {u : HO} (s : Same H H') (h : Rd H a u) : Rd H' a u := by
  rcases h with h | ⟨o, h⟩
  · exact .inl (s _ _ h)
  · exact .inr ⟨o, s _ _ h⟩
theorem Same.tup {H H' : Hp} {a : Addr} {xs : List V} (s : Same H H') (h : SqT K H a xs) : SqT K H' a xs := by
  rcases h with h | h
  · exact .inl (s.rd h)
  · exact .inr h
theorem Itl.get {a : Addr} {xs : List V} {i : Nat} {H H' : Hp} {v : V} (h : (Itl K a).yld i H v H') (hx : SqL K H a xs) : H' = H ∧ xs[i]? = some v := ⟨h.1, h.2 xs hx⟩
end
end L2
set_option Elab.async false
set_option linter.all false
set_option maxRecDepth 100000
set_option maxHeartbeats 4000000
namespace L2
open PySem PySem.Spec PyProof.Rows
section
variable {X : Cx} (K : PySem.W.Frag) {a e : Expr} {ta te : TE} {tg : Expr} {pos : Pos}
theorem kAdd (h : X.K = K := by rfl) : OpR X (binaryOp .Add) (rAddX K) := h ▸ op_addX
theorem kIn (hu : X.A.units + 1 < cLine) (h : X.K = K := by rfl) : OpR X (compareOp .In) (rInX K) := h ▸ op_inX hu
theorem kNotIn (hu : X.A.units + 1 < cLine) (h : X.K = K := by rfl) : OpR X (compareOp .NotIn) (rNotInX K) := h ▸ op_notInX hu
theorem kIx (hu : X.A.units + 1 < cLine) (h : X.K = K := by rfl) : IxR X (rIxX K) := h ▸ ix_any hu
theorem kSl (h : X.K = K := by rfl) : SlR X (rSl K) := h ▸ sl_any
theorem kAll (hc : X.calm = true) (h : X.K = K := by rfl) : CallR X (.builtin "all") (rAll K) := h ▸ call_allB hc
def tTru (ta : TE) : TT := fun σ H Q => ta σ H fun x H' => ∃ k, TruV K x H' k ∧ Q k H'
theorem kTru (ha : PE X a ta) (h : X.K = K := by rfl) (he : ∀ whole, isTrue a X.env whole = (do let v ← whole; standAt a.pos; holding [v] (truthy v)) := by intro _; rfl) : PT X a (tTru K ta) := h ▸ pt_truth ha he
theorem r_truT {σ : St} {H : Hp} {Qb : Bool → Hp → Prop} (q : ta σ H fun x H' => ∃ k, TruV K x H' k ∧ Qb k H') : tTru K ta σ H Qb := q
theorem kIt (hl : PE X a ta) (h : X.K = K := by rfl) : PI2 X tg a (iIt K ta) := h ▸ pi_it hl
theorem kTup {es : List Expr} {k : Nat} {t : TGs} {n : Nat} (hc : X.calm = true) (hg : PGs X es t) (h : X.K = K := by rfl)
    (hn : (assignEach es X.env).length = n := by rfl) (hst : (assignEach es X.env).findIdx? (·.1) = none := by rfl) : PG X (.Tuple es k pos) (gTup K n t) := h ▸ pg_tup hc hg hn hst
end
end L2
set_option Elab.async false
set_option linter.all false
set_option maxRecDepth 100000
set_option maxHeartbeats 4000000
namespace L2
open PySem PySem.Spec PyProof.Rows
def notStar : Expr → Bool
  | .Starred _ _ => false
  | _ => true
def noStars (es : List Expr) : Bool := es.all notStar
theorem se_of {e : Expr} {es : List Expr} {env : Env} (h : notStar e = true) : starEach (e :: es) env = (false, eval e env) :: starEach es env := by
  cases e <;> first | rfl | cases h
theorem se_any {env : Env} {pos : Pos} : ∀ {es : List Expr}, noStars es = true → (backTo pos (starEach es env)).any (·.1) = false
  | [], _ => rfl
  | e :: es, h => by
    have h' : (notStar e && noStars es) = true := h
    rw [Bool.and_eq_true] at h'
    rw [se_of h'.1]
    show (false || (backTo pos (starEach es env)).any (·.1)) = false
    rw [se_any h'.2]; rfl
theorem as_of {e : Expr} {es : List Expr} {env : Env} (h : notStar e = true) : assignEach (e :: es) env = (false, assign e env) :: assignEach es env := by
  cases e <;> first | rfl | cases h
theorem as_len {env : Env} : ∀ {es : List Expr}, noStars es = true → (assignEach es env).length = es.length
  | [], _ => rfl
  | e :: es, h => by
    have h' : (notStar e && noStars es) = true := h
    rw [Bool.and_eq_true] at h'
    rw [as_of h'.1, List.length_cons, as_len h'.2, List.length_cons]
theorem as_idx {env : Env} : ∀ {es : List Expr}, noStars es = true → (assignEach es env).findIdx? (·.1) = none
  | [], _ => rfl
  | e :: es, h => by
    have h' : (notStar e && noStars es) = true := h
    rw [Bool.and_eq_true] at h'
    rw [as_of h'.1, List.findIdx?_cons]
    simp [as_idx h'.2]
section
variable {X : Cx} {K : PySem.W.Frag} {e : Expr} {es : List Expr} {te : TE} {t : TA} {x : Str} {p pos : Pos} {id T : String} {r : List V → Hp → VK → Prop}
theorem paC (ha : PE X e te) (hr : PA X es t) (h : notStar e = true := by rfl) : PA X (e :: es) (tCons te t) := pa_cons ha hr (se_of h)
theorem cB (hc : CallR X (.builtin id) r) (hm : X.mg x = none) (hv : bootBuiltins x = some (.builtin id)) (ha : PA X (e :: es) t) (hg : Gl X x := by rfl) (hn : x ≠ "__name__" := by decide) (hdb : (x == ("__debug__" : Str)) = false := by decide)
    (h : noStars (e :: es) = true := by rfl) : PE X (.Call (.Name x p) (e :: es) [] pos) (tCB r t) := by
  have h' : (notStar e && noStars es) = true := h
  rw [Bool.and_eq_true] at h'
  exact pe_callB hc hg hm hv ha hn hdb (se_of h'.1) (se_any h'.2)
theorem cTy (hc : CallR X (.type T) r) (hm : X.mg x = none) (hv : bootBuiltins x = some (.type T)) (ha : PA X (e :: es) t) (hg : Gl X x := by rfl) (hn : x ≠ "__name__" := by decide) (hdb : (x == ("__debug__" : Str)) = false := by decide)
    (h : noStars (e :: es) = true := by rfl) : PE X (.Call (.Name x p) (e :: es) [] pos) (tCB r t) := by
  have h' : (notStar e && noStars es) = true := h
  rw [Bool.and_eq_true] at h'
  exact pe_callTy hc hg hm hv ha hn hdb (se_of h'.1) (se_any h'.2)
theorem cC {CX : CXT} {k : Nat} {ps : List Str} {dvs : List V} {sp : Sp} {E : XK} (C : Cal X.prog X.w X.K X.mg X.base CX k x ps dvs sp) (hr : Room k X.A) (hx : Passes CX X E) (ha : PA X (e :: es) t) (hg : Gl X x := by rfl)
    (hdb : (x == ("__debug__" : Str)) = false := by decide) (h : noStars (e :: es) = true := by rfl) : PE X (.Call (.Name x p) (e :: es) [] pos) (tCall sp dvs E t) := by
  have h' : (notStar e && noStars es) = true := h
  rw [Bool.and_eq_true] at h'
  exact pe_callC C hr hx ha hg hdb (se_of h'.1) (se_any h'.2)
theorem gT {tg : Expr} {k : Nat} {u : TGs} (hc : X.calm = true) (hg : PGs X es u) (hK : X.K = K := by rfl) (h : noStars es = true := by rfl) : PG X (.Tuple es k pos) (gTup K es.length u) := kTup K hc hg hK (as_len h) (as_idx h)
theorem gC {g : TG} {u : TGs} (h1 : PG X e g) (h2 : PGs X es u) (h : notStar e = true := by rfl) : PGs X (e :: es) (gCons g u) := pgs_cons h1 h2 (by rw [as_of h]; rfl)
end
end L2
set_option Elab.async false
set_option linter.all false
set_option maxRecDepth 100000
set_option maxHeartbeats 4000000
namespace L2
open PySem PySem.Spec PyProof.Rows
structure QE (X : Cx) (e : Expr) (t : TE) : Prop where
  r : PE X e t
structure QT (X : Cx) (e : Expr) (t : TT) : Prop where
  r : PT X e t
structure QW (X : Cx) (e : Expr) (t : TT) : Prop where
  r : PW X e t
structure QA (X : Cx) (es : List Expr) (t : TA) : Prop where
  r : PA X es t
structure QS (X : Cx) (st : Stmt) (t : TS) : Prop where
  r : PS X st t
structure QSs (X : Cx) (st : List Stmt) (t : TS) : Prop where
  r : PSs X st t
structure QG (X : Cx) (tg : Expr) (t : TG) : Prop where
  r : PG X tg t
structure QGs (X : Cx) (tg : List Expr) (t : TGs) : Prop where
  r : PGs X tg t
structure QI (X : Cx) (tg iter : Expr) (t : TI2) : Prop where
  r : PI2 X tg iter t
structure QIf (X : Cx) (ifs : List Expr) (t : TT) : Prop where
  r : PIfs X ifs t
structure QO (X : Cx) (e : Option Expr) (t : TO) : Prop where
  r : PO X e t
structure QP (X : Cx) (pos : Pos) (keys : List (Option Expr)) (values : List Expr) (trs : List (TE × TE)) : Prop where
  r : PPs X pos keys values trs
section
variable {X : Cx} {a b c e o : Expr} {es : List Expr} {ta tb tc te to : TE} {tA tB' : TT} {t : TA} {rest : List Expr} {pos apos cpos p2 : Pos} {x : Str} {p : Pos} {bid T : String}
theorem qBl {b : Bool} {j} : QE X (.Constant (.bool b) j pos) (tC (.bl b)) := ⟨pe_bl⟩
theorem qInt {i : Int} {j} : QE X (.Constant (.int i) j pos) (tC (.int i)) := ⟨pe_int⟩
theorem qStr {x : Str} {j} : QE X (.Constant (.str x) j pos) (tC (.str x)) := ⟨pe_str⟩
theorem qV (i : Nat) (hN : X.N[i]? = some x := by rfl) (hv : Vis X.env.scope x := by first | exact Or.inl rfl | exact Or.inr (Or.inl rfl) | exact Or.inr (Or.inr rfl)) (hd : (x == ("__debug__" : Str)) = false := by decide)
    (hcd : (x == ("__classdict__" : Str)) = false := by decide) : QE X (.Name x pos) (tVar i) := ⟨pe_var hN hv hd hcd⟩
theorem qTy (n : String) (hm : X.mg x = none) (hv : bootBuiltins x = some (.type n)) (hg : Gl X x := by rfl) (hn : x ≠ "__name__" := by decide) (hd : (x == ("__debug__" : Str)) = false := by decide) : QE X (.Name x pos) (tC (.ty n)) := ⟨pe_bltn hg hm hv rfl hn hd⟩
theorem qOp {op : Operator} {r : R2} (ho : OpR X (binaryOp op) r) (ha : QE X a ta) (hb : QE X b tb) : QE X (.BinOp a op b pos) (tOp r ta tb) := ⟨pe_op ho ha.r hb.r⟩
theorem qOne {op} (h : QE X a ta) : QE X (.BoolOp op [a] pos) ta := ⟨pe_one h.r⟩
theorem qAnd (ha : QE X a ta) (hb : QE X (.BoolOp .And (b :: rest) pos) tb) : QE X (.BoolOp .And (a :: b :: rest) pos) (tAndV ta tb) := ⟨pe_and ha.r hb.r⟩
theorem qCmp {op : CmpOp} {r : R2} (ho : OpR X (compareOp op) r) (ha : QE X a ta) (hb : QE X b tb) (hm : behindInMarks op b = false) : QE X (.Compare a [op] [b] pos) (tOp r ta tb) := ⟨pe_cmpR ho ha.r hb.r hm⟩
theorem qtCmp {op : CmpOp} {r : R2} (ho : OpR X (compareOp op) r) (ha : QE X a ta) (hb : QE X b tb) (hm : behindInMarks op b = false) : QT X (.Compare a [op] [b] pos) (tTest (tOp r ta tb)) := ⟨pt_cmpR ho ha.r hb.r hm⟩
theorem qoN : QO X none tNoPart := ⟨po_none⟩
theorem qoS (h : QE X e te) : QO X (some e) (tPart te) := ⟨po_some h.r⟩
theorem qSl {lo hi : Option Expr} {tl th : TO} {r : V → Option Int → Option Int → Hp → VK → Prop} (hr : SlR X r) (he : QE X e te) (hl : QO X lo tl) (hu : QO X hi th) : QE X (.Subscript e (.Slice lo hi none p2) pos) (tSl r te tl th) := ⟨pe_slice hr he.r hl.r hu.r⟩
theorem qIx {r : R2} (hr : IxR X r) (ha : QE X a ta) (hb : QE X b tb) (hs : PlainIx b) : QE X (.Subscript a b pos) (tOp r ta tb) := ⟨pe_ix hr ha.r hb.r hs⟩
theorem qLst (h : QA X es t) : QE X (.List es pos) (tLst t) := ⟨pe_lst h.r⟩
theorem qTup {x1} (h : QA X es t) : QE X (.Tuple es x1 pos) (tTup t) := ⟨pe_tup h.r⟩
theorem qD0 : QE X (.Dict [] [] pos) tDNewK := ⟨pe_dnewK⟩
theorem qa0 : QA X [] tNil := ⟨pa_nil⟩
theorem qa1 (ha : QE X e te) (hr : QA X es t) (h : notStar e = true := by rfl) : QA X (e :: es) (tCons te t) := ⟨paC ha.r hr.r h⟩
theorem qB {r : List V → Hp → VK → Prop} (hc : CallR X (.builtin bid) r) (hm : X.mg x = none) (hv : bootBuiltins x = some (.builtin bid)) (ha : QA X (e :: es) t) (hg : Gl X x := by rfl) (hn : x ≠ "__name__" := by decide) (hdb : (x == ("__debug__" : Str)) = false := by decide)
    (h : noStars (e :: es) = true := by rfl) : QE X (.Call (.Name x p) (e :: es) [] pos) (tCB r t) := ⟨cB hc hm hv ha.r hg hn hdb h⟩
theorem qBT {r : List V → Hp → VK → Prop} (hc : CallR X (.type T) r) (hm : X.mg x = none) (hv : bootBuiltins x = some (.type T)) (ha : QA X (e :: es) t) (hg : Gl X x := by rfl) (hn : x ≠ "__name__" := by decide) (hdb : (x == ("__debug__" : Str)) = false := by decide)
    (h : noStars (e :: es) = true := by rfl) : QE X (.Call (.Name x p) (e :: es) [] pos) (tCB r t) := ⟨cTy hc hm hv ha.r hg hn hdb h⟩
theorem qC {CX : CXT} {k : Nat} {ps : List Str} {dvs : List V} {sp : Sp} {E : XK} (C : Cal X.prog X.w X.K X.mg X.base CX k x ps dvs sp) (hr : Room k X.A) (hx : Passes CX X E) (ha : QA X (e :: es) t) (hg : Gl X x := by rfl)
    (hdb : (x == ("__debug__" : Str)) = false := by decide) (h : noStars (e :: es) = true := by rfl) : QE X (.Call (.Name x p) (e :: es) [] pos) (tCall sp dvs E t) := ⟨cC C hr hx ha.r hg hdb h⟩
theorem qM {name : Str} {r : V → List V → Hp → VK → Prop} (pa : PlainAttrs T) (slot : Slot T name bid) (hty : typeOf (.builtin bid) = pure (.type "method_descriptor")) (hm : MtR X bid r) (K : PySem.W.Frag) (ho : QE X o to) (ha : QA X (e :: es) t) (hK : X.K = K := by rfl)
    (hbase : attributeBase o name X.env (eval o X.env) = eval o X.env := by rfl)
    (h : noStars (e :: es) = true := by rfl) (h2 : decide ((e :: es).length < 30) = true := by rfl) (hline : (apos.endLine == cpos.line) = true := by rfl) : QE X (.Call (.Attribute o name apos) (e :: es) [] cpos) (tBM K T r to t) := by
  have h' : (notStar e && noStars es) = true := h
  rw [Bool.and_eq_true] at h'
  have hall : ∀ {l : List Expr}, noStars l = true → (backTo cpos (starEach l X.env)).all (fun x => !x.1) = true := fun {l} hl => by
    have q := se_any (env := X.env) (pos := cpos) hl
    rw [List.all_eq_true]
    intro y hy
    rw [List.any_eq_false] at q
    simpa using q y hy
  subst hK
  refine ⟨pe_bm pa slot hty hm ho.r ha.r hbase ?_ hline (se_of h'.1) (se_any h'.2)⟩
  rw [hall h]
  show (true && true && decide ((e :: es).length + 0 + 0 < 30)) = true
  simpa using h2
theorem qM0 {name : Str} {r : V → List V → Hp → VK → Prop} (pa : PlainAttrs T) (slot : Slot T name bid) (hty : typeOf (.builtin bid) = pure (.type "method_descriptor")) (hm : MtR X bid r) (K : PySem.W.Frag) (ho : QE X o to) (hK : X.K = K := by rfl)
    (hbase : attributeBase o name X.env (eval o X.env) = eval o X.env := by rfl) (hline : (apos.endLine == cpos.line) = true := by rfl) : QE X (.Call (.Attribute o name apos) [] [] cpos) (tBM0 K T r to) := ⟨hK ▸ pe_bm0 pa slot hty hm ho.r hbase hline⟩
theorem qComp {own : List Str} {js : List Nat} {scope : Scope} {tg iter elt : Expr} {ifs : List Expr} {g : TG} {ti : TT} {wi : TI2} (S : scB X own js scope = true) (hc : X.calm = true) (hit : QI X tg iter wi)
    (hg : ∀ C s H fp, QG (cxB X own js scope C s H fp) tg g) (hi : ∀ C s H fp, QIf (cxB X own js scope C s H fp) ifs ti) (he : ∀ C s H fp, QE (cxB X own js scope C s H fp) elt te)
    (hs : ∀ x, foldedSetIterable iter X.env x = pure x := by intro _; rfl) : QE X (.ListComp elt [⟨tg, iter, ifs, 0⟩] scope pos) (tComp2 own js wi g ti te) :=
  ⟨pe_lcomp2 S hc hit.r (fun C s H fp => (hg C s H fp).r) (fun C s H fp => (hi C s H fp).r) (fun C s H fp => (he C s H fp).r) hs⟩
theorem qif0 : QIf X [] tIf0 := ⟨pif00⟩
theorem qif1 (h : QT X c tA) : QIf X [c] tA := ⟨pif1 h.r⟩
theorem qtNot (ha : QT X a tA) : QT X (.UnaryOp .Not a pos) (tNot tA) := ⟨pt_not ha.r⟩
theorem qtTru (K : PySem.W.Frag) (ha : QE X a ta) (h : X.K = K := by rfl) (he : ∀ whole, isTrue a X.env whole = (do let v ← whole; standAt a.pos; holding [v] (truthy v)) := by intro _; rfl) : QT X a (tTru K ta) := ⟨kTru K ha.r h he⟩
theorem qtW (h : QW X a tA) : QT X a tA := ⟨h.r.pt⟩
theorem qwAnd1 (ha : QT X a tA) : QW X (.BoolOp .And [a] pos) tA := ⟨pw_and1 ha.r⟩
theorem qwOr1 (ha : QT X a tA) : QW X (.BoolOp .Or [a] pos) tA := ⟨pw_or1 ha.r⟩
theorem qwAnd (ha : QT X a tA) (hb : QW X (.BoolOp .And (b :: rest) pos) tB') : QW X (.BoolOp .And (a :: b :: rest) pos) (tAnd tA tB') := ⟨pw_and ha.r hb.r⟩
theorem qwOr (ha : QT X a tA) (hb : QW X (.BoolOp .Or (b :: rest) pos) tB') : QW X (.BoolOp .Or (a :: b :: rest) pos) (tOr tA tB') := ⟨pw_or ha.r hb.r⟩
theorem qgN {i : Nat} (hN : X.N.Nodup) (hi : X.N[i]? = some x) (hx : Loc X.env.scope x) (hf : X.fn x = true ∨ X.env.scope.names.lookup x = some .local := by first | exact .inl rfl | exact .inr rfl | assumption) : QG X (.Name x pos) (gName i) := ⟨pg_name hN hi hx hf⟩
theorem qg0 : QGs X [] gNil := ⟨pgs_nil⟩
theorem qg1 {g : TG} {u : TGs} (h1 : QG X e g) (h2 : QGs X es u) (h : notStar e = true := by rfl) : QGs X (e :: es) (gCons g u) := ⟨gC h1.r h2.r h⟩
theorem qgT (K : PySem.W.Frag) {k : Nat} {u : TGs} (hc : X.calm = true) (hg : QGs X es u) (hK : X.K = K := by rfl) (h : noStars es = true := by rfl) : QG X (.Tuple es k pos) (gTup K es.length u) := ⟨gT (tg := .Name Str.empty pos) hc hg.r hK h⟩
theorem qgS {i : Expr} {ti : TE} {u : TSet} (ho : QE X o to) (hi : QE X i ti) (hs : PSet X u)
    (ha : ∀ v, assign (.Subscript o i pos) X.env v = (do
      let ov ← holding [v] (eval o X.env)
      let iv ← holding [v, ov] (eval i X.env)
      standAt pos
      holding [v, ov, iv] (setItem ov iv v)
      release [v, ov, iv] []) := by intro _; rfl) : QG X (.Subscript o i pos) (gSub to ti u) := ⟨pg_sub ho.r hi.r hs ha⟩
theorem qiIt (K : PySem.W.Frag) {tg : Expr} (hl : QE X a ta) (h : X.K = K := by rfl) : QI X tg a (iIt K ta) := ⟨kIt K hl.r h⟩
def tTwo (wi : TI) : TI2 := fun σ H R => wi σ H fun J H' => R J id H'
theorem r_two {wi : TI} {σ : St} {H : Hp} {R : It → (Hp → Hp) → Hp → Prop} (q : wi σ H fun J H' => R J id H') : tTwo wi σ H R := q
theorem qiR1 {tg : Expr} (hm : X.mg "range" = none) (ha : QA X [a] t) (hg : Gl X "range" := by rfl) (h : notStar a = true := by rfl) : QI X tg (.Call (.Name "range" p) [a] [] pos) (tTwo (iRng1 t)) := ⟨(pi_range1 hg hm ha.r (se_of h)).two⟩
theorem qiItems {elts : List Expr} {x1} {tpos : Pos} (ho : QE X o to)
    (hbase : attributeBase o "items" X.env (eval o X.env) = eval o X.env := by rfl) (hline : (apos.endLine == cpos.line) = true := by rfl) : QI X (.Tuple elts x1 tpos) (.Call (.Attribute o "items" apos) [] [] cpos) (iItems to) := ⟨pi_items ho.r hbase hline⟩
variable {st : Stmt} {sts body orelse : List Stmt} {u u' : TS} {g : TG}
theorem qs0 : QSs X [] tNext := ⟨pss_nil⟩
theorem qs1 (h : QS X st u) : QSs X [st] u := ⟨pss_one h.r⟩
theorem qsC (h1 : QS X st u) (h2 : QSs X sts u') : QSs X (st :: sts) (tSeq u u') := ⟨pss_cons h1.r h2.r⟩
theorem qSet {i : Nat} {pos' : Pos} (hN : X.N.Nodup) (hi : X.N[i]? = some x) (hx : Loc X.env.scope x) (he : QE X e te) (hs : swapsWith e (some (.Name x pos')) pos.line X.env = pure false := by rfl) (hf : X.fn x = true ∨ X.env.scope.names.lookup x = some .local := by first | exact .inl rfl | exact .inr rfl) :
    QS X (.Assign [.Name x pos'] e pos) (tAsg te (gName i)) := ⟨ps_set hN hi hx he.r hs hf⟩
theorem qAsg {tg : Expr} (he : QE X e te) (hg : QG X tg g) (hs : swapsWithSole [tg] e pos.line X.env = pure false := by rfl) (hw : swappedStores [tg] e X.env = pure none := by rfl) (h : notStar tg = true := by rfl) : QS X (.Assign [tg] e pos) (tAsg te g) :=
  ⟨ps_asg he.r hg.r hs hw (by rw [as_of h]; rfl)⟩
theorem qIf (hc : QT X c tA) (ht : QSs X body u) (he : QSs X orelse u') : QS X (.If c body orelse pos) (tIfS tA u u') := ⟨ps_if hc.r ht.r he.r⟩
theorem qRet (he : QE X e te) : QS X (.Return (some e) pos) (tRet te) := ⟨ps_ret he.r⟩
theorem qEx (he : QE X e te) (hs : swapsWith e none pos.line X.env = pure false := by rfl) : QS X (.Expr e pos) (tDrop te) := ⟨ps_expr he.r hs⟩
theorem qFor {tg iter : Expr} {wi : TI2} (hp : PassesOwn (model X.prog X.w) X.A X.env X.xe) (hc : X.calm = true) (hi : QI X tg iter wi) (hg : QG X tg g) (hb : QSs X body u) (hs : ∀ x, foldedSetIterable iter X.env x = pure x := by intro _; rfl) : QS X (.For tg iter body [] pos) (tFor2 wi g u) :=
  ⟨ps_for2 hp hc hi.r hg.r hb.r hs⟩
end
end L2
set_option Elab.async false
set_option linter.all false
set_option maxRecDepth 100000
set_option maxHeartbeats 4000000
namespace L2
open PySem PySem.Spec PyProof.Rows
theorem strs_of_vals : ∀ {ss : List Str} {us : List Value}, Vals (ss.map V.str) us → StrsAre us ss
  | [], _, .nil => .nil
  | x :: ss, _, .cons r t => by
    obtain ⟨k, rfl⟩ := r
    exact .cons x k (strs_of_vals t)
theorem vals_of_strs : ∀ {us : List Value} {ss : List Str}, StrsAre us ss → Vals (ss.map V.str) us
  | _, _, .nil => .nil
  | _, _, .cons y t r => .cons ⟨t, rfl⟩ (vals_of_strs r)
theorem vals_of_get : ∀ {xs : List V} {us : List Value}, xs.length = us.length → (∀ (i : Nat) x u, xs[i]? = some x → us[i]? = some u → RelV x u) → Vals xs us
  | [], [], _, _ => .nil
  | [], _ :: _, h, _ => by simp at h
  | _ :: _, [], h, _ => by simp at h
  | x :: xs, u :: us, h, k => .cons (k 0 x u rfl rfl) (vals_of_get (by simpa using h) fun i y v e1 e2 => k (i + 1) y v (by simpa using e1) (by simpa using e2))
section
variable {X : Cx}
theorem Inv.newL {pins : List (Addr × Obj)} {σ : St} {H : Hp} {s : Shared} {h' : Heap} {tk : Nat} {a : Addr} {xs : List V} {out : Array Value} {e : Nat} (I : Inv X pins σ H s) (k : ∀ b u, s.heap.get? b = some u → h'.get? b = some u) (ha : s.heap.objs.size ≤ a)
    (ho : h'.get? a = some { cls := .type "list", data := .seq out e }) (rv : Vals xs out.toList) (hz : xs.length ≤ sizeLine) : Inv X pins σ (upd H a (.lst xs)) { s with heap := h', toks := tk } :=
  I.laid k ha ⟨hz, out.toList, e, rv, by rw [ho]⟩
theorem ObjOk.live {P : Program} {w : World} {H : Hp} {h : Heap} {a : Addr} {o : HO} (x : ObjOk P w H h a o) : ∃ ob, h.get? a = some ob := by
  cases o with
  | lst xs => obtain ⟨_, _, _, _, e⟩ := x; exact ⟨_, e⟩
  | tup xs => obtain ⟨_, _, _, o, e, _⟩ := x; exact ⟨_, e⟩
  | dK kvs => obtain ⟨_, _, _, _, o, _, _, e, _⟩ := x; exact ⟨_, e⟩
  | dT kvs => obtain ⟨_, _, _, _, o, _, _, e, _⟩ := x; exact ⟨_, e⟩
  | set S n => obtain ⟨o, _, _, _, e, _⟩ := x; exact ⟨_, e⟩
  | ins C dx fs => obtain ⟨_, _, _, e, _⟩ := x; exact ⟨_, e⟩
  | own y => exact x
  | xd fs => obtain ⟨_, ⟨_, _, _, e, _⟩, _⟩ := x; exact ⟨_, e⟩
  | rng lo hi => obtain ⟨_, _, _, e⟩ := x; exact ⟨_, e⟩
  | frz ob u => obtain ⟨e, _⟩ := x; exact ⟨_, e⟩
  | tbl ps => exact ⟨_, (show h.get? a = some _ from x)⟩
  | met f y => exact ⟨_, (show h.get? a = some _ from x)⟩
  | ext φ => obtain ⟨_, e, _⟩ := x; exact e
theorem Inv.newN {pins : List (Addr × Obj)} {σ : St} {H : Hp} {s : Shared} {h' : Heap} {tk : Nat} {a : Addr} {xs : List V} {out : Array Value} {e : Nat} (I : Inv X pins σ H s) (k : ∀ b u, s.heap.get? b = some u → h'.get? b = some u) (hn : s.heap.get? a = none)
    (ho : h'.get? a = some { cls := .type "list", data := .seq out e }) (rv : Vals xs out.toList) (hz : xs.length ≤ sizeLine) : H a = none ∧ Inv X pins σ (upd H a (.lst xs)) { s with heap := h', toks := tk } := by
  have hH : H a = none := by
    cases q : H a with
    | none => rfl
    | some u =>
      obtain ⟨ob, z⟩ := (I.hok a u q).live
      rw [hn] at z; cases z
  have na : ∀ b o, s.heap.get? b = some o → b ≠ a := fun b o z w => by rw [w, hn] at z; cases z
  have nh : ∀ b u, H b = some u → b ≠ a := fun b u z => ne_of_none z hH
  refine ⟨hH, I.un ⟨fun b o z n _ _ => k b o z, fun b o z n _ _ => ⟨o.slots, k b o z⟩, fun b o z n _ => by rw [upd_ne (na b o z)]; exact n, fun b o z _ => ⟨o, k b o z⟩, fun b ys z => by rw [upd_ne (nh b _ z)]; exact z,
    fun b ob u z => by rw [upd_ne (nh b _ z)]; exact z, fun b ps z => ⟨#[], by rw [upd_ne (nh b _ z)]; simpa using z⟩⟩ fun b u z => ?_⟩
  by_cases hb : b = a
  · subst hb
    rw [upd_same] at z; cases z
    exact ⟨hz, out.toList, e, rv, by rw [ho]⟩
  · rw [upd_ne hb] at z
    exact (I.hok b u z).stay (fun c v _ y => k c v y) (fun c y => by rw [upd_ne (nh c _ y)]; exact y) fun c ys y => by rw [upd_ne (nh c _ y)]; exact y
def rSorted (K : PySem.W.Frag) : List V → Hp → VK → Prop := fun xs H Q => ∃ (p : Addr) (ss : List Str), xs = [.ref p] ∧ (SqL K H p (ss.map V.str) ∨ ∃ kvs : List (Key × V), Rd H p (.dK kvs) ∧ kvs.map (·.1) = ss.map Sum.inr) ∧ ss.length < 64 ∧
  ∀ ss' : List Str, ss'.Perm ss → sortedS ss' = true → ∀ l, H l = none → Q (.ref l) (upd H l (.lst (ss'.map V.str)))
theorem sort_here {M : Program} {w : World} {A : Around} {E : Value → Shared → Prop} {s : Shared} {a : Addr} {vs : List Value} {ss : List Str} {n : Nat} {Q : Value → Shared → Prop} (ho : s.heap.get? a = some (seqObj "list" vs.toArray n)) (hS : StrsAre vs ss) (h64 : vs.length < 64)
    (h : ∀ (out : Array Value) (ss' : List Str), StrsAre out.toList ss' → ss'.Perm ss → sortedS ss' = true → Q .none { s with heap := sortedHeap s.heap a vs out }) :
    wpAny (model M w) A (call (.builtin "list.sort") [.ref a]) Q E s := by
  refine wpAny_call_entry PySem.F.slot_list_sort ⟨_, ho, rfl⟩ PySem.F.entry_list_sort ?_ (PySem.F.args_list_sort_1 _)
  refine list_sort_treeK strKind_oneLt ho hS.keysOf (fun v₁ v₂ rest e => keyKind_strs (by rw [← e]; exact hS)) h64 fun st' hp hs => ?_
  obtain ⟨ss', h1, h2, h3⟩ := sorted_out_str hS hp hs
  exact ⟨_, rfl, h _ ss' h1 h2 h3⟩
theorem call_sortedX (hc : X.calm = true) : CallR X (.builtin "sorted") (rSorted X.K) := by
  intro pins s σ H xs us Q I r h
  obtain ⟨p, ss, rfl, hx, h64, q⟩ := h
  obtain ⟨u, rfl, ru⟩ := vals1 r
  cases ru
  have hsl : (64 : Nat) ≤ sizeLine := by decide
  rcases hx with hx | ⟨kvs, hx, hk⟩
  · obtain ⟨its, rv, ht, hz⟩ := I.list hx
    have hS := strs_of_vals rv
    have hl : its.length = ss.length := by have := rv.length; simpa using this.symm
    refine sorted_strs ht.isList hS (by lia) fun out ss' a1 a2 a3 => ?_
    obtain ⟨e, he⟩ := sortedAll_at s.heap its out
    have hl' := a2.length_eq
    exact ⟨.ref (s.heap.objs.size + 1), _, I.newL (tk := s.toks) (fun _ _ => sortedAll_old) (Nat.le_succ _) he (vals_of_strs a1) (by rw [List.length_map]; lia), rfl, q ss' a2 a3 _ (I.hok.fresh (Nat.le_succ _))⟩
  · obtain ⟨hd, o, vs, ep, ho, D⟩ := dobj_of I.hok hx
    have dat := D.at_ _ ho
    have hlen : kvs.length = ss.length := by have := congrArg List.length hk; simpa using this
    have hlv := KV.length D.kv
    refine Calls.call_function_entry kind_sorted plain_sorted entry_sorted (args_sorted1 _) ?_
    unfold Builtin.«sorted»
    refine wpAny_bind (m := checkCount "sorted" 1 1 _) (wpAny_pure ?_)
    refine wpAny_bind (PySem.W.kdu_collect (A := X.A.in1) (PySem.W.kdl_dict (knd := mixKind X.prog X.w) (kvs := vs) (ep := ep) hd) (I.ok.hd hc) dat (by lia) fun h' tk acc hkp hacc => ?_)
    have hl : acc.toList.length = vs.length := by rw [Array.length_toList]; exact hacc.1
    have hS : StrsAre acc.toList ss := by
      refine strs_of_vals (vals_of_get (by rw [List.length_map]; lia) fun i x u e1 e2 => ?_)
      obtain ⟨k, y, hy, hky⟩ := hacc.2 i u (by rw [← Array.getElem?_toList]; exact e2)
      have e3 : (kvs.map (·.1))[i]? = some k := by rw [KV.keys D.kv, List.getElem?_map, hy]; rfl
      rw [hk, List.getElem?_map] at e3
      rw [List.getElem?_map] at e1
      cases e4 : ss[i]? with
      | none => rw [e4] at e1; cases e1
      | some z =>
        rw [e4] at e1 e3
        cases e1
        cases e3
        exact key_rel hky
    refine wpAny_bind (wpAny_newList ?_ (by rw [hl]; lia))
    refine wpAny_bind (wpAny_holding (sort_here (s := { s with heap := h'.push { cls := .type "list", data := .seq acc.toList.toArray }, toks := tk }) (n := 0) (Heap.get?_push_size _ rfl) hS (by lia) fun out ss' a1 a2 a3 => ?_))
    obtain ⟨e, he⟩ := sortedHeap_at (h := h'.push { cls := .type "list", data := .seq acc.toList.toArray }) (a := h'.objs.size) (vs := acc.toList) (n := 0) (out := out) (Heap.get?_push_size _ rfl)
    have hno : s.heap.get? h'.objs.size = none := by
      cases z : s.heap.get? h'.objs.size with
      | none => rfl
      | some ob => exact absurd (Heap.lt_size (hkp _ _ z)) (Nat.lt_irrefl _)
    have hl' := a2.length_eq
    obtain ⟨hH, I2⟩ := I.newN (tk := tk) (h' := sortedHeap (h'.push { cls := .type "list", data := .seq acc.toList.toArray }) h'.objs.size acc.toList out) (xs := ss'.map V.str) (fun b u eb => by
      have hb := Heap.lt_size (hkp b u eb)
      rw [sortedHeap_old (b := b) (Nat.ne_of_lt hb) (by rw [Heap.size_push]; exact Nat.lt_succ_of_lt hb)]
      exact Heap.get?_push_of_some _ (hkp b u eb)) hno he (vals_of_strs a1) (by rw [List.length_map]; lia)
    exact wpAny_pure ⟨_, rfl, .ref h'.objs.size, _, I2, rfl, q ss' a2 a3 _ hH⟩
def rList (K : PySem.W.Frag) : List V → Hp → VK → Prop := fun xs H Q => (∃ p ys, xs = [.ref p] ∧ (SqL K H p ys ∨ SqT K H p ys) ∧ ∀ l, H l = none → Q (.ref l) (upd H l (.lst ys))) ∨
  (∃ (p : Addr) (kvs : List (Key × V)), xs = [.ref p] ∧ Rd H p (.dK kvs) ∧ ∀ l, H l = none → Q (.ref l) (upd H l (.lst (kvs.map fun kv => kV kv.1))))
theorem call_listX (hc : X.calm = true) : CallR X (.type "list") (rList X.K) := by
  refine call_list_of.or ?_
  intro pins s σ H xs us Q I r h
  obtain ⟨p, kvs, rfl, hx, q⟩ := h
  obtain ⟨u, rfl, ru⟩ := vals1 r
  cases ru
  obtain ⟨hd, o, vs, ep, ho, D⟩ := dobj_of I.hok hx
  have hlv := KV.length D.kv
  have hz : kvs.length ≤ sizeLine := (dk_rd I.hok hx).1
  refine PySem.W.kdl_call (PySem.W.kdl_dict (knd := mixKind X.prog X.w) (kvs := vs) (ep := ep) hd) (I.ok.hd hc) (D.at_ _ ho) (by lia) fun h' tk acc c hkp hS hacc => ?_
  refine ⟨.ref s.heap.objs.size, _, I.newL (tk := tk) hkp (Nat.le_refl _) hS (vals_of_get (by have := hacc.1; simp; lia) fun i x u e1 e2 => ?_) (by rw [List.length_map]; exact hz), rfl, q _ (I.hok.fresh (Nat.le_refl _))⟩
  obtain ⟨k, y, hy, hky⟩ := hacc.2 i u (by rw [← Array.getElem?_toList]; exact e2)
  rw [List.getElem?_map] at e1
  cases e4 : kvs[i]? with
  | none => rw [e4] at e1; cases e1
  | some kv =>
    rw [e4] at e1
    cases e1
    have e3 : (kvs.map (·.1))[i]? = some kv.1 := by rw [List.getElem?_map, e4]; rfl
    rw [KV.keys D.kv, List.getElem?_map, hy] at e3
    cases e3
    exact key_rel hky
def rDict : List V → Hp → VK → Prop := fun xs H Q => ∃ (p : Addr) (kvs : List (Key × V)), xs = [.ref p] ∧ Rd H p (.dK kvs) ∧ ∀ l, H l = none → Q (.ref l) (upd H l (.dK kvs))
theorem call_dictX : CallR X (.type "dict") rDict := by
  intro pins s σ H xs us Q I r h
  obtain ⟨p, kvs, rfl, hx, q⟩ := h
  obtain ⟨u, rfl, ru⟩ := vals1 r
  cases ru
  exact d_copyOf I hx fun l s' hl I' => ⟨.ref l, _, I', rfl, q l hl⟩
def rMulX : R2 := fun x y H Q => rI CMul (fun i j => .int (i * j)) x y H Q ∨ (∃ z n, x = .str z ∧ y = .int n ∧ z.length ≤ 1000 ∧ -1000 ≤ n ∧ n ≤ 1000 ∧ Q (.str (Txt.mul z n)) H)
theorem op_mulY : OpR X (binaryOp .Mult) rMulX := by
  refine op_mul.or ?_
  intro pins s σ H x y v u Q I rx ry h
  obtain ⟨z, n, rfl, rfl, h1, h2, h3, q⟩ := h
  obtain ⟨t, rfl⟩ := rx
  obtain ⟨t', rfl⟩ := ry
  exact SB.mul (mulOk_of 1000 1000 h1 h3 (by lia) (by decide) (by decide)) fun t2 k => ⟨.str _, H, I.tok _, ⟨t2, rfl⟩, q⟩
def rSetX : TSet := fun o i v H Q => rSetL o i v H Q ∨ (∃ a H', o = .ref a ∧ DPut H a i v H' ∧ Q H')
theorem set_any (hu : X.A.units + 1 < cLine) : PSet X rSetX := by
  intro pins s σ H o i v ov iv u Q I ro ri rv h
  rcases h with h | ⟨a, H', rfl, g, q⟩
  · exact set_list pins s σ H o i v ov iv u Q I ro ri rv h
  · cases ro
    exact d_setItem hu I g ri rv fun s' I' => ⟨H', I', q⟩
end
end L2
set_option Elab.async false
set_option linter.all false
set_option maxRecDepth 100000
set_option maxHeartbeats 4000000
namespace L2
open PySem PySem.Spec PyProof.Rows
section
variable {X : Cx}
end
section
variable {X : Cx} {a b : Expr} {t : TA} {p pos : Pos}
end
section
variable {X : Cx} {a b : Expr} {t : TA} {p pos : Pos}
end
section
variable {X : Cx} (K : PySem.W.Frag) {a b : Expr} {t : TA} {p pos : Pos}
theorem kSorted (hc : X.calm = true) (h : X.K = K := by rfl) : CallR X (.builtin "sorted") (rSorted K) := h ▸ call_sortedX hc
end
theorem mt_list_append1 {X : Cx} : MtR X "list.append" rAppend := mt_append
theorem mt_list_clear0 {X : Cx} : MtR X "list.clear" rClear := mt_clear
section
variable {K : PySem.W.Frag} {σ : St} {H : Hp} {Q : VK}
theorem r_sorted_dic {p : Addr} {kvs : List (Key × V)} {ss : List Str} (h : Rd H p (.dK kvs)) (hk : kvs.map (·.1) = ss.map Sum.inr) (h64 : ss.length < 64) (q : ∀ ss' : List Str, ss'.Perm ss → sortedS ss' = true → ∀ l, H l = none → Q (.ref l) (upd H l (.lst (ss'.map V.str)))) : rSorted K [.ref p] H Q := ⟨p, ss, rfl, .inr ⟨kvs, h, hk⟩, h64, q⟩
theorem r_list_lst {p : Addr} {xs : List V} (h : SqL K H p xs) (q : ∀ l, H l = none → Q (.ref l) (upd H l (.lst xs))) : rList K [.ref p] H Q := .inl ⟨p, xs, rfl, .inl h, q⟩
theorem r_mul_int {i j : Int} (h : CMul i j) (q : Q (.int (i * j)) H) : rMulX (.int i) (.int j) H Q := .inl ⟨i, j, rfl, rfl, h, q⟩
theorem r_gsub {to ti : TE} {t : TSet} {v : V} {Qs : St → Hp → Prop} (q : to σ H fun o H1 => ti σ H1 fun i H2 => t o i v H2 fun H3 => Qs σ H3) : gSub to ti t v σ H Qs := q
theorem r_set_dic {a : Addr} {kvs : List (Key × V)} {k : Key} {v : V} {Qh : Hp → Prop} (h : H a = some (.dK kvs)) (hl : kvs.length < sizeLine) (q : Qh (upd H a (.dK (putK kvs k v)))) : rSetX (.ref a) (kV k) v H Qh := .inr ⟨a, _, rfl, DPut.k h hl, q⟩
theorem r_gTup {n : Nat} {t : TGs} {a : Addr} {xs : List V} {Qs : St → Hp → Prop} (h : SqT K H a xs) (hl : xs.length = n) (q : t xs σ H Qs) : gTup K n t (.ref a) σ H Qs := ⟨a, xs, rfl, h, hl, q⟩
theorem r_gCons {t : TG} {u : TGs} {v : V} {r : List V} {Qs : St → Hp → Prop} (q : t v σ H fun σ' H' => u r σ' H' Qs) : gCons t u (v :: r) σ H Qs := ⟨v, r, rfl, q⟩
theorem r_gNil {Qs : St → Hp → Prop} (q : Qs σ H) : gNil [] σ H Qs := ⟨rfl, q⟩
theorem r_bm {T : String} {r : V → List V → Hp → VK → Prop} {to : TE} {t : TA} (q : to σ H fun x H1 => tyV K T x H1 ∧ t σ H1 fun xs H2 => r x xs H2 Q) : tBM K T r to t σ H Q := q
theorem r_bm0 {T : String} {r : V → List V → Hp → VK → Prop} {to : TE} (q : to σ H fun x H1 => tyV K T x H1 ∧ r x [] H1 Q) : tBM0 K T r to σ H Q := q
theorem r_in_dic {p : Addr} {x : V} {o : Option V} (g : DGet H p x o) (q : Q (.bl o.isSome) H) : rInX K x (.ref p) H Q := .inr (.inr ⟨p, o, rfl, g, q⟩)
theorem r_in_seq {p : Addr} {x : V} {xs : List V} (h : SqL K H p xs ∨ SqT K H p xs) (h1 : flatV x = true) (h2 : xs.all flatV = true) (q : Q (.bl (inV x xs)) H) : rInX K x (.ref p) H Q := .inr (.inl ⟨p, xs, rfl, h, h1, h2, q⟩)
theorem dget {a : Addr} {kvs : List (Key × V)} {k : Key} (e : Rd H a (.dK kvs)) : DGet H a (kV k) (valV kvs k) := .inl ⟨kvs, k, e, rfl, rfl⟩
end
end L2
set_option Elab.async false
set_option linter.all false
set_option maxRecDepth 100000
set_option maxHeartbeats 4000000
namespace L2
open PySem PySem.Spec PyProof.Rows
open PySem.AutoSeq1 (wpAny_loadPart')
def EqP (P : Program) (w : World) (A : Around) (s : Shared) (y x : Value) (b : Bool) : Prop := ∀ (E : Value → Shared → Prop) (Q : Bool → Shared → Prop), Q b s → wpAny (model P w) A (eqBool y x) Q E s
def RcP (P : Program) (w : World) (A : Around) (s : Shared) (y x : Value) (b : Bool) : Prop := ∀ (E : Value → Shared → Prop) (Q : Value → Shared → Prop), Q (.bool b) s → wpAny (model P w) A (richCompare .Eq y x) Q E s
theorem EqP.of {P : Program} {w : World} {A : Around} {s : Shared} {y x : Value} {b : Bool} (h : SeqAt.EqAt A s y x b) : EqP P w A s y x b := fun E Q q => h P w E Q q
theorem EqP.refs {P : Program} {w : World} {A : Around} {s : Shared} {l m : Addr} {k : Bool} (hne : l ≠ m) (h : RcP P w A s (.ref l) (.ref m) k) : EqP P w A s (.ref l) (.ref m) k := fun E Q q => by
  unfold eqBool
  refine wpAny_holding (wpAny_ite_split (fun z => absurd (Value.ref.inj (eq_of_beq z)) hne) fun _ => wpAny_bind (h E _ (wpAny_truthy_bool q)))
theorem tupEqP {P : Program} {w : World} (l m : Addr) (xs ys : Array Value) (n1 n2 : Nat) (d1 d2 : Option Addr) (s1 s2 : Array (Option Value)) (f : Nat → Bool) :
    MeetsIn P w (Builtin.«tuple.__eq__» ⟨[.ref l, .ref m], []⟩) (fun A R s =>
      s.heap.get? l = some { cls := .type "tuple", dict := d1, data := .seq xs n1, slots := s1 } ∧ s.heap.get? m = some { cls := .type "tuple", dict := d2, data := .seq ys n2, slots := s2 } ∧
      (∀ j (g1 : j < xs.size) (g2 : j < ys.size), EqP P w A.in1 s xs[j] ys[j] (f j)) ∧
      R (.ok (.ret (.bool ((List.range (min xs.size ys.size)).all f && xs.size == ys.size)))) s) :=
  .of_wp fun A R s hyp => by
    obtain ⟨hp, gg, dr, tk, os⟩ := s
    obtain ⟨e1, e2, he, fin⟩ := hyp
    have sub := AutoSeq1.sub_tuple_tuple
    have len : (xs.toList.zip ys.toList).length = min xs.size ys.size := by simp
    wp_walk using wpAny_loadPart' e1, wpAny_loadPart' e2, wpAny_forIn_list _ (fun more acc st => acc.1 = none ∧ st = ⟨hp, gg, dr, tk, os⟩ ∧ ∃ i, more = (xs.toList.zip ys.toList).drop i ∧
      R (.ok (.ret (.bool (((List.range (min xs.size ys.size)).drop i).all f && xs.size == ys.size)))) ⟨hp, gg, dr, tk, os⟩) _
    case turn =>
      rintro ⟨y, x⟩ more acc st ⟨ha, rfl, i, hi, hR⟩
      have lt : i < (xs.toList.zip ys.toList).length := by
        rcases Nat.lt_or_ge i (xs.toList.zip ys.toList).length with z | z
        · exact z
        · rw [List.drop_of_length_le z] at hi
          cases hi
      have lm : i < min xs.size ys.size := len ▸ lt
      have lx : i < xs.size := Nat.lt_of_lt_of_le lm (Nat.min_le_left _ _)
      have ly : i < ys.size := Nat.lt_of_lt_of_le lm (Nat.min_le_right _ _)
      rw [List.drop_eq_getElem_cons lt] at hi
      injection hi with h1 h2
      have q1 : y = xs[i] := by simpa using congrArg Prod.fst h1
      have q2 : x = ys[i] := by simpa using congrArg Prod.snd h1
      subst q1 q2
      have dr1 : (List.range (min xs.size ys.size)).drop i = i :: (List.range (min xs.size ys.size)).drop (i + 1) := by simp [List.drop_eq_getElem_cons, lm]
      rw [dr1, List.all_cons] at hR
      refine wpAny_bind (he i lx ly _ _ ?_)
      cases hf : f i with
      | true =>
        rw [hf] at hR
        wp_walk
        exact ⟨rfl, rfl, i + 1, h2, by simpa using hR⟩
      | false =>
        rw [hf] at hR
        wp_walk
        exact ⟨_, rfl, by simpa using hR⟩
    case fin =>
      rintro ⟨c1, c2⟩ st ⟨ha, rfl, i, hi, hR⟩
      simp only at ha
      subst ha
      have ge : min xs.size ys.size ≤ i := by
        rcases Nat.lt_or_ge i (xs.toList.zip ys.toList).length with z | z
        · rw [List.drop_eq_getElem_cons z] at hi
          cases hi
        · exact len ▸ z
      rw [List.drop_of_length_le (by simpa using ge)] at hR
      wp_walk
      exact ⟨_, rfl, by simpa [Builtin.Tuple.tupleCompareSizes] using hR⟩
    case h =>
      exact ⟨rfl, rfl, 0, rfl, by simpa using fin⟩
theorem RcP.tup {P : Program} {w : World} {A : Around} {s : Shared} {l m : Addr} {xs ys : Array Value} {f : Nat → Bool} (hl : s.heap.IsTuple l xs) (hm : s.heap.IsTuple m ys) (hu : A.units < cLine)
    (he : ∀ j (g1 : j < xs.size) (g2 : j < ys.size), EqP P w A.in1 s xs[j] ys[j] (f j)) : RcP P w A s (.ref l) (.ref m) ((List.range (min xs.size ys.size)).all f && xs.size == ys.size) := fun E Q q => by
  obtain ⟨⟨c1, d1, a1, s1⟩, o1, k1, n1, t1⟩ := id hl
  obtain ⟨⟨c2, d2, a2, s2⟩, o2, k2, n2, t2⟩ := id hm
  simp only at k1 t1 k2 t2
  subst k1 t1 k2 t2
  refine wpAny_richCompare_same_room (op := .Eq) ⟨_, o1, rfl⟩ ⟨_, o2, rfl⟩ PySem.F.slot_tuple_eq (call_meetsIn PySem.F.slot_tuple_eq ⟨_, o1, rfl⟩ PySem.F.entry_tuple_eq (PySem.F.args_tuple_eq_2 _ _) (tupEqP l m xs ys n1 n2 d1 d2 s1 s2 f) ⟨o1, o2, he, ?_⟩) hu
  exact ⟨(fun z => nomatch z), q⟩
def eqVs : List V → List V → Bool
  | [], [] => true
  | x :: xs, y :: ys => eqV x y && eqVs xs ys
  | _, _ => false
inductive Eq1 (K : PySem.W.Frag) (H : Hp) : V → V → Bool → Prop
  | flat {x y : V} : flatV x = true → flatV y = true → Eq1 K H x y (eqV x y)
  | tup {a b : Addr} {xs ys : List V} : SqT K H a xs → SqT K H b ys → xs.all flatV = true → ys.all flatV = true → Eq1 K H (.ref a) (.ref b) (eqVs xs ys)
  | nt {a : Addr} {xs : List V} : SqT K H a xs → Eq1 K H .non (.ref a) false
  | tn {a : Addr} {xs : List V} : SqT K H a xs → Eq1 K H (.ref a) .non false
theorem eqV_refl : ∀ {x : V}, flatV x = true → eqV x x = true
  | .non, _ => rfl
  | .bl b, _ => by simp [eqV]
  | .int i, _ => by simp [eqV]
  | .str x, _ => by simp [eqV]
theorem eqVs_refl : ∀ {xs : List V}, xs.all flatV = true → eqVs xs xs = true
  | [], _ => rfl
  | x :: xs, h => by
    rw [List.all_cons, Bool.and_eq_true] at h
    show (eqV x x && eqVs xs xs) = true
    rw [eqV_refl h.1, eqVs_refl h.2]; rfl
theorem eqVs_range : ∀ (xs ys : List V), ((List.range (min xs.length ys.length)).all (fun j => eqV (xs.getD j .non) (ys.getD j .non)) && xs.length == ys.length) = eqVs xs ys
  | [], [] => rfl
  | [], _ :: _ => by simp [eqVs]
  | _ :: _, [] => by simp [eqVs]
  | x :: xs, y :: ys => by
    have ih := eqVs_range xs ys
    have e : min (x :: xs).length (y :: ys).length = min xs.length ys.length + 1 := by simp
    rw [e, List.range_succ_eq_map, List.all_cons, List.all_map]
    show ((eqV x y && (List.range (min xs.length ys.length)).all _) && (xs.length + 1 == ys.length + 1)) = (eqV x y && eqVs xs ys)
    rw [← ih, Bool.and_assoc]
    congr 1
    congr 1
    simp
section
variable {X : Cx} {pins : List (Addr × Obj)} {σ : St} {H : Hp} {s : Shared} {A : Around}
theorem Eq1.at_ {x y : V} {u v : Value} {b : Bool} (I : Inv X pins σ H s) (h : Eq1 X.K H x y b) (rx : RelV x u) (ry : RelV y v) (hu : A.units + 8 < cLine) : SeqAt.EqAt A s u v b := by
  cases h with
  | flat fx fy => exact eqAt_V rx ry fx fy
  | @tup a c xs ys ha hc fx fy =>
    cases rx
    cases ry
    obtain ⟨its, r1, p1, z1⟩ := I.tuple ha
    obtain ⟨its', r2, p2, z2⟩ := I.tuple hc
    by_cases hac : a = c
    · subst hac
      have e := I.tuple_inj ha hc
      subst e
      rw [eqVs_refl fx]
      exact SeqAt.EqAt.same _
    · have l1 := r1.length
      have l2 := r2.length
      have q := SeqAt.RcAt.tuples (A := A) (e := fun j => eqV (xs.getD j .non) (ys.getD j .non)) (show s.heap.IsTuple a its.toArray from p1) (show s.heap.IsTuple c its'.toArray from p2) (by lia) fun j g1 g2 => by
        have g1' : j < its.length := by simpa using g1
        have g2' : j < its'.length := by simpa using g2
        have x1 : xs[j]? = some (xs[j]'(by lia)) := by simp [show j < xs.length by lia]
        have y1 : ys[j]? = some (ys[j]'(by lia)) := by simp [show j < ys.length by lia]
        obtain ⟨u1, hu1, ru1⟩ := r1.get x1
        obtain ⟨u2, hu2, ru2⟩ := r2.get y1
        have e1 : its.toArray[j] = u1 := by
          have := List.getElem?_eq_getElem g1'
          rw [hu1] at this
          simpa using (Option.some.inj this).symm
        have e2 : its'.toArray[j] = u2 := by
          have := List.getElem?_eq_getElem g2'
          rw [hu2] at this
          simpa using (Option.some.inj this).symm
        rw [e1, e2]
        have d1 : xs.getD j .non = xs[j]'(by lia) := by rw [List.getD_eq_getElem?_getD, x1]; rfl
        have d2 : ys.getD j .non = ys[j]'(by lia) := by rw [List.getD_eq_getElem?_getD, y1]; rfl
        rw [d1, d2]
        exact eqAt_V ru1 ru2 (List.all_eq_true.mp fx _ (List.getElem_mem _)) (List.all_eq_true.mp fy _ (List.getElem_mem _))
      have e3 : its.toArray.size = xs.length := by simp [l1]
      have e4 : its'.toArray.size = ys.length := by simp [l2]
      rw [e3, e4, eqVs_range] at q
      exact .of_refs hac q
  | @nt a xs ha =>
    cases rx
    cases ry
    obtain ⟨its, r1, p1, z1⟩ := I.tuple ha
    exact SeqAt.EqAt.none_tuple (show s.heap.IsTuple a its.toArray from p1) (by lia)
  | @tn a xs ha =>
    cases rx
    cases ry
    obtain ⟨its, r1, p1, z1⟩ := I.tuple ha
    exact SeqAt.EqAt.tuple_none (show s.heap.IsTuple a its.toArray from p1) (by lia)
end
inductive EqH (K : PySem.W.Frag) (H : Hp) (kb : List (Key × V)) : List (Key × V) → Bool → Prop
  | nil : EqH K H kb [] true
  | miss {k : Key} {v : V} {r : List (Key × V)} : valV kb k = none → EqH K H kb ((k, v) :: r) false
  | hit {k : Key} {v y : V} {r : List (Key × V)} {e b : Bool} : valV kb k = some y → Eq1 K H v y e → EqH K H kb r b → EqH K H kb ((k, v) :: r) (e && b)
def EqD (K : PySem.W.Frag) (H : Hp) (a b : Addr) (r : Bool) : Prop := (a = b ∧ r = true) ∨ (a ≠ b ∧ ∃ ka kb r0, Rd H a (.dK ka) ∧ Rd H b (.dK kb) ∧ EqH K H kb ka r0 ∧ r = (ka.length == kb.length && r0))
section
variable {X : Cx} {pins : List (Addr × Obj)} {σ : St} {H : Hp} {s : Shared} {A : Around}
theorem EqH.hits {kb : List (Key × V)} {vb : List (Key × Value)} (I : Inv X pins σ H s) (hu : A.units + 8 < cLine) (rb : KV kb vb) {ka : List (Key × V)} {r : Bool} (h : EqH X.K H kb ka r) : ∀ {va : List (Key × Value)}, KV ka va → PySem.W.KeqHits A s vb va r := by
  induction h with
  | nil =>
    intro va t
    cases t
    exact .nil
  | @miss k v r hn =>
    intro va t
    cases t with
    | @cons _ q _ l e t =>
      obtain ⟨k', u⟩ := q
      have ek' : k = k' := e.1
      subst ek'
      refine .miss ?_
      have z := KV.val rb k
      rw [hn] at z
      cases e : valueAt vb k with
      | none => rfl
      | some y => rw [e] at z; exact False.elim z
  | @hit k v y r e b hy h1 hr ih =>
    intro va t
    cases t with
    | @cons _ q _ l e t =>
      obtain ⟨k', u⟩ := q
      have ek' : k = k' := e.1
      subst ek'
      have z := KV.val rb k
      rw [hy] at z
      cases e5 : valueAt vb k with
      | none => rw [e5] at z; exact False.elim z
      | some y' =>
        rw [e5] at z
        exact .hit e5 (h1.at_ I e.2 z hu) (ih t)
theorem EqD.at_ {a b : Addr} {r : Bool} (I : Inv X pins σ H s) (h : EqD X.K H a b r) (hu : A.units + 16 < cLine) : EqP X.prog X.w A s (.ref a) (.ref b) r := by
  rcases h with ⟨rfl, rfl⟩ | ⟨hne, ka, kb, r0, h1, h2, h3, rfl⟩
  · exact .of (SeqAt.EqAt.same _)
  · obtain ⟨z1, d1, va, ra, da⟩ := dk_rd I.hok h1
    obtain ⟨z2, d2, vb, rb, db⟩ := dk_rd I.hok h2
    refine .refs hne fun E Q q => ?_
    have l1 := KV.length ra
    have l2 := KV.length rb
    exact PySem.W.keq_eq (knd := mixKind X.prog X.w) d1 d2 da db (by lia) (fun _ => h3.hits (A := A.in1) I (by show A.units + 1 + 8 < _; lia) rb ra) (by rw [← l1, ← l2]; exact q)
def rEqW (K : PySem.W.Frag) : R2 := fun x y H Q => ∃ a b p q p' q' r r', x = .ref a ∧ y = .ref b ∧ SqT K H a [.ref p, .ref q] ∧ SqT K H b [.ref p', .ref q'] ∧ EqD K H p p' r ∧ EqD K H q q' r' ∧ Q (.bl (r && r')) H
theorem op_eqW (hu : X.A.units + 64 < cLine) : OpR X (compareOp .Eq) (rEqW X.K) := by
  intro pins s σ H x y v u Q I rx ry h
  obtain ⟨a, b, p, q, p', q', r, r', rfl, rfl, ha, hb, h1, h2, k⟩ := h
  cases rx
  cases ry
  obtain ⟨its, v1, t1, _⟩ := I.tuple ha
  obtain ⟨its', v2, t2, _⟩ := I.tuple hb
  obtain ⟨_, _, rfl, e1, e2⟩ := vals2 v1
  obtain ⟨_, _, rfl, e3, e4⟩ := vals2 v2
  cases e1
  cases e2
  cases e3
  cases e4
  refine RcP.tup (P := X.prog) (w := X.w) (f := fun j => if j = 0 then r else r') (show s.heap.IsTuple a _ from t1) (show s.heap.IsTuple b _ from t2) (by lia) (fun j g1 g2 => ?_) _ _ ⟨.bl (r && r'), H, I, by show Value.bool _ = Value.bool _; simp [List.range_succ], k⟩
  have g : j < 2 := by simpa using g1
  match j, g with
  | 0, _ => exact h1.at_ I (by show X.A.units + 1 + 16 < _; lia)
  | 1, _ => exact h2.at_ I (by show X.A.units + 1 + 16 < _; lia)
def rEqL (K : PySem.W.Frag) : R2 := fun x y H Q => ∃ a b xs ys, x = .ref a ∧ y = .ref b ∧ SqL K H a xs ∧ SqL K H b ys ∧ xs.all flatV = true ∧ ys.all flatV = true ∧ Q (.bl (eqVs xs ys)) H
theorem eqVs_len : ∀ {xs ys : List V}, xs.length ≠ ys.length → eqVs xs ys = false
  | [], [], h => absurd rfl h
  | [], _ :: _, _ => rfl
  | _ :: _, [], _ => rfl
  | x :: xs, y :: ys, h => by
    show (eqV x y && eqVs xs ys) = false
    rw [eqVs_len (by simpa using h), Bool.and_false]
theorem op_eqL (hu : X.A.units + 64 < cLine) : OpR X (compareOp .Eq) (rEqL X.K) := by
  intro pins s σ H x y v u Q I rx ry h
  obtain ⟨a, b, xs, ys, rfl, rfl, ha, hb, fx, fy, k⟩ := h
  cases rx
  cases ry
  obtain ⟨its, r1, p1, z1⟩ := I.list ha
  obtain ⟨its', r2, p2, z2⟩ := I.list hb
  have l1 := r1.length
  have l2 := r2.length
  have e3 : its.toArray.size = xs.length := by simp [l1]
  have e4 : its'.toArray.size = ys.length := by simp [l2]
  by_cases hl : xs.length = ys.length
  · have q := SeqAt.RcAt.lists (A := X.A) (e := fun j => eqV (xs.getD j .non) (ys.getD j .non)) p1.isList p2.isList (by rw [e3, e4]; exact hl) (by lia) fun j g1 g2 => by
      have g1' : j < its.length := by simpa using g1
      have g2' : j < its'.length := by simpa using g2
      have x1 : xs[j]? = some (xs[j]'(by lia)) := by simp [show j < xs.length by lia]
      have y1 : ys[j]? = some (ys[j]'(by lia)) := by simp [show j < ys.length by lia]
      obtain ⟨u1, hu1, ru1⟩ := r1.get x1
      obtain ⟨u2, hu2, ru2⟩ := r2.get y1
      have e1 : its.toArray[j] = u1 := by
        have := List.getElem?_eq_getElem g1'
        rw [hu1] at this
        simpa using (Option.some.inj this).symm
      have e2 : its'.toArray[j] = u2 := by
        have := List.getElem?_eq_getElem g2'
        rw [hu2] at this
        simpa using (Option.some.inj this).symm
      rw [e1, e2]
      have d1 : xs.getD j .non = xs[j]'(by lia) := by rw [List.getD_eq_getElem?_getD, x1]; rfl
      have d2 : ys.getD j .non = ys[j]'(by lia) := by rw [List.getD_eq_getElem?_getD, y1]; rfl
      rw [d1, d2]
      exact eqAt_V ru1 ru2 (List.all_eq_true.mp fx _ (List.getElem_mem _)) (List.all_eq_true.mp fy _ (List.getElem_mem _))
    have e5 := eqVs_range xs ys
    rw [hl, Nat.min_self, beq_self_eq_true, Bool.and_true] at e5
    rw [e3, hl, e5] at q
    exact q X.prog X.w _ _ ⟨.bl _, H, I, rfl, k⟩
  · refine SeqAt.RcAt.lists_lengths (A := X.A) p1.isList p2.isList (by rw [e3, e4]; simpa using hl) (by lia) X.prog X.w _ _ ⟨.bl _, H, I, ?_, k⟩
    rw [eqVs_len hl]; rfl
def rEqT (K : PySem.W.Frag) : R2 := fun x y H Q => (∃ a b xs ys, x = .ref a ∧ y = .ref b ∧ SqT K H a xs ∧ SqT K H b ys ∧ xs.all flatV = true ∧ ys.all flatV = true ∧ Q (.bl (eqVs xs ys)) H) ∨ (∃ a xs, x = .non ∧ y = .ref a ∧ SqT K H a xs ∧ Q (.bl false) H)
theorem op_eqT (hu : X.A.units + 64 < cLine) : OpR X (compareOp .Eq) (rEqT X.K) := by
  intro pins s σ H x y v u Q I rx ry h
  rcases h with ⟨a, b, xs, ys, rfl, rfl, ha, hb, fx, fy, k⟩ | ⟨a, xs, rfl, rfl, ha, k⟩
  · cases rx
    cases ry
    obtain ⟨its, r1, p1, z1⟩ := I.tuple ha
    obtain ⟨its', r2, p2, z2⟩ := I.tuple hb
    have l1 := r1.length
    have l2 := r2.length
    have q := SeqAt.RcAt.tuples (A := X.A) (e := fun j => eqV (xs.getD j .non) (ys.getD j .non)) (show s.heap.IsTuple a its.toArray from p1) (show s.heap.IsTuple b its'.toArray from p2) (by lia) fun j g1 g2 => by
      have g1' : j < its.length := by simpa using g1
      have g2' : j < its'.length := by simpa using g2
      have x1 : xs[j]? = some (xs[j]'(by lia)) := by simp [show j < xs.length by lia]
      have y1 : ys[j]? = some (ys[j]'(by lia)) := by simp [show j < ys.length by lia]
      obtain ⟨u1, hu1, ru1⟩ := r1.get x1
      obtain ⟨u2, hu2, ru2⟩ := r2.get y1
      have e1 : its.toArray[j] = u1 := by
        have := List.getElem?_eq_getElem g1'
        rw [hu1] at this
        simpa using (Option.some.inj this).symm
      have e2 : its'.toArray[j] = u2 := by
        have := List.getElem?_eq_getElem g2'
        rw [hu2] at this
        simpa using (Option.some.inj this).symm
      rw [e1, e2]
      have d1 : xs.getD j .non = xs[j]'(by lia) := by rw [List.getD_eq_getElem?_getD, x1]; rfl
      have d2 : ys.getD j .non = ys[j]'(by lia) := by rw [List.getD_eq_getElem?_getD, y1]; rfl
      rw [d1, d2]
      exact eqAt_V ru1 ru2 (List.all_eq_true.mp fx _ (List.getElem_mem _)) (List.all_eq_true.mp fy _ (List.getElem_mem _))
    have e3 : its.toArray.size = xs.length := by simp [l1]
    have e4 : its'.toArray.size = ys.length := by simp [l2]
    rw [e3, e4, eqVs_range] at q
    exact q X.prog X.w _ _ ⟨.bl _, H, I, rfl, k⟩
  · cases rx
    cases ry
    obtain ⟨its, r1, p1, z1⟩ := I.tuple ha
    exact SeqAt.RcAt.none_tuple (A := X.A) (show s.heap.IsTuple a its.toArray from p1) (by lia) X.prog X.w _ _ ⟨.bl false, H, I, rfl, k⟩
def rEqX (K : PySem.W.Frag) : R2 := fun x y H Q => rEq x y H Q ∨ rEqL K x y H Q ∨ rEqT K x y H Q ∨ rEqW K x y H Q
theorem kEq (K : PySem.W.Frag) {k : Nat} (hr : Room k X.A) (h : X.K = K := by rfl) : OpR X (compareOp .Eq) (rEqX K) := h ▸ op_eq.or ((op_eqL hr.units).or ((op_eqT hr.units).or (op_eqW hr.units)))
end
section
variable {K : PySem.W.Frag} {H : Hp} {Q : VK}
theorem q_eq_int {i j : Int} (q : Q (.bl (decide (i = j))) H) : rEqX K (.int i) (.int j) H Q := .inl (r_eq_int q)
theorem q_eq_str {i j : Str} (q : Q (.bl (decide (i = j))) H) : rEqX K (.str i) (.str j) H Q := .inl (r_eq_str q)
theorem q_eq_tup {a b : Addr} {xs ys : List V} (ha : SqT K H a xs) (hb : SqT K H b ys) (fx : xs.all flatV = true) (fy : ys.all flatV = true) (q : Q (.bl (eqVs xs ys)) H) : rEqX K (.ref a) (.ref b) H Q := .inr (.inr (.inl (.inl ⟨a, b, xs, ys, rfl, rfl, ha, hb, fx, fy, q⟩)))
end
end L2
set_option Elab.async false
set_option linter.all false
set_option maxRecDepth 100000
set_option maxHeartbeats 4000000
namespace L2
open PySem PySem.Spec PyProof.Rows
section
variable {K : PySem.W.Frag} {σ : St} {H H' H1 : Hp} {Q : VK} {d : Addr} {kvs : List (Key × V)} {o : Obj}
theorem r_ne_int {i j : Int} (q : Q (.bl (!decide (i = j))) H) : rNe (.int i) (.int j) H Q := ⟨rfl, by rw [dec_int]; rw [show (i == j) = decide (i = j) from Bool.beq_eq_decide_eq i j]; exact q⟩
def nf : HO → Bool
  | .frz _ _ => false
  | _ => true
def Le (H H' : Hp) : Prop := ∀ a u, nf u = true → Rd H a u → Rd H' a u
theorem Le.trans (a : Le H H1) (b : Le H1 H') : Le H H' := fun x u n h => b x u n (a x u n h)
theorem Same.le (s : Same H H') : Le H H' := fun a u _ h => s.rd h
theorem le_frz (h : H d = some (.dK kvs)) : Le H (frzD d o kvs H) := fun a u n r => by
  by_cases e : a = d
  · subst e
    rcases r with r | ⟨o', r⟩
    · rw [h] at r; cases r
      exact .inr ⟨o, upd_same⟩
    · rw [h] at r; cases r
  · unfold frzD Rd
    rw [upd_ne e]; exact r
theorem le_thaw : Le H (thaw d H) := fun a u n r => by
  by_cases e : a = d
  · subst e
    rcases r with r | ⟨o', r⟩
    · rw [thaw_id fun o v z => by rw [r] at z; cases z; cases n]; exact .inl r
    · exact .inl (thaw_at r)
  · unfold Rd
    rw [thaw_ne e]; exact r
theorem Le.tup {a : Addr} {xs : List V} (l : Le H H') (h : SqT K H a xs) : SqT K H' a xs := by
  rcases h with h | h
  · exact .inl (l _ _ rfl h)
  · exact .inr h
theorem Le.dic {a : Addr} (l : Le H H') (h : Rd H a (.dK kvs)) : Rd H' a (.dK kvs) := l _ _ rfl h
abbrev Tie := Str × Str × Str
structure Web where
  pts : List (Str × Str)
  ts : List (Str × Tie)
def pKV (pts : List (Str × Str)) : List (Key × V) := pts.map fun x => (Sum.inr x.1, .str x.2)
def tieV (t : Tie) : List V := [.str t.1, .str t.2.1, .str t.2.2]
def TieAt (K : PySem.W.Frag) (H : Hp) (kv : Key × V) (x : Str × Tie) : Prop := kv.1 = Sum.inr x.1 ∧ ∃ a, kv.2 = .ref a ∧ SqT K H a (tieV x.2)
def TiesIs (K : PySem.W.Frag) (H : Hp) (kvs : List (Key × V)) (ts : List (Str × Tie)) : Prop := Paired (TieAt K H) kvs ts
structure WebAt (K : PySem.W.Frag) (H : Hp) (a p q : Addr) (kvs : List (Key × V)) (W : Web) : Prop where
  tup : SqT K H a [.ref p, .ref q]
  pts : Rd H p (.dK (pKV W.pts))
  ties : Rd H q (.dK kvs)
  ts : TiesIs K H kvs W.ts
theorem TieAt.mono {kv : Key × V} {x : Str × Tie} (l : Le H H') (h : TieAt K H kv x) : TieAt K H' kv x := let ⟨e, a, ea, s⟩ := h; ⟨e, a, ea, l.tup s⟩
theorem TiesIs.mono {ts : List (Str × Tie)} (l : Le H H') (h : TiesIs K H kvs ts) : TiesIs K H' kvs ts := Paired.imp' (fun _ _ z => z.mono l) h
theorem WebAt.mono {a p q : Addr} {W : Web} (l : Le H H') (h : WebAt K H a p q kvs W) : WebAt K H' a p q kvs W := ⟨l.tup h.tup, l.dic h.pts, l.dic h.ties, h.ts.mono l⟩
theorem TiesIs.length {ts : List (Str × Tie)} (h : TiesIs K H kvs ts) : kvs.length = ts.length := Paired.length h
theorem TiesIs.keys {ts : List (Str × Tie)} (h : TiesIs K H kvs ts) : kvs.map (·.1) = ts.map fun x => Sum.inr x.1 := by
  unfold TiesIs at h
  induction h with
  | nil => rfl
  | cons r _ ih => rw [List.map_cons, List.map_cons, ih, r.1]
theorem TiesIs.get {ts : List (Str × Tie)} {i : Nat} {kv : Key × V} (h : TiesIs K H kvs ts) (e : kvs[i]? = some kv) : ∃ x, ts[i]? = some x ∧ TieAt K H kv x := paired_get h e
theorem TiesIs.val {ts : List (Str × Tie)} {n : Str} : ∀ {kvs : List (Key × V)} {ts : List (Str × Tie)}, TiesIs K H kvs ts → n ∈ ts.map (·.1) → ∃ a x, valV kvs (Sum.inr n : Key) = some (.ref a) ∧ (n, x) ∈ ts ∧ SqT K H a (tieV x)
  | _, _, .nil, h => by simp at h
  | kv :: r, x :: ts, .cons t u, h => by
    obtain ⟨e, a, ea, s⟩ := t
    by_cases hn : x.1 = n
    · subst hn
      refine ⟨a, x.2, ?_, List.mem_cons_self, s⟩
      rw [valV_pos e, ea]
    · have h' : n ∈ ts.map (·.1) := by
        rcases List.mem_cons.mp h with z | z
        · exact absurd z.symm hn
        · exact z
      obtain ⟨b, y, h1, h2, h3⟩ := TiesIs.val (ts := ts) u h'
      refine ⟨b, y, ?_, List.mem_cons_of_mem _ h2, h3⟩
      rw [valV_neg (by rw [e]; intro z; exact hn (Sum.inr.inj z))]
      exact h1
theorem pKV_keys (pts : List (Str × Str)) : (pKV pts).map (·.1) = pts.map fun x => Sum.inr x.1 := by
  unfold pKV
  rw [List.map_map]; rfl
def lt (a b : Str) : Bool := decide (a.cps.toList < b.cps.toList)
end
end L2
set_option Elab.async false
set_option linter.all false
set_option maxRecDepth 100000
set_option maxHeartbeats 4000000
namespace L2
open PySem PySem.Spec PyProof.Rows
theorem Inv.off {X : Cx} {pins : List (Addr × Obj)} {σ : St} {H : Hp} {s : Shared} {C : Addr} {h' : Heap} (I : Inv X pins σ H s) (hH : H C = none) (h0 : X.s₀.heap.objs.size ≤ C) (h1 : C ≠ X.env.locals) (h2 : ∀ x c, X.env.cells.lookup x = some c → c ≠ C) (h3 : ∀ p ∈ X.pn ++ pins, p.1 ≠ C) (sb : Heap.SameBut C s.heap h') : Inv X pins σ H { s with heap := h' } := by
  refine I.call' (s' := { s with heap := h' }) (ch := [C]) rfl ?_ ?_ I.bare fun b hb => ?_
  · have same : ∀ b, b ∉ [C] → h'.get? b = s.heap.get? b := fun b hb => sb.2 b fun z => hb (by rw [z]; exact List.mem_cons_self)
    refine ⟨fun b o q n hb hx => ?_, fun b o q n hb hx => ?_, fun b o q n hx => n, fun b o q hx => ?_, fun b xs q => q, fun b o u q => q, fun b ps q => ⟨#[], by rw [Array.append_empty]; exact q⟩⟩
    · show h'.get? b = _
      rw [same b hx]; exact q
    · exact ⟨o.slots, (same b hx).trans q⟩
    · exact ⟨o, (same b hx).trans q⟩
  · refine fun b ob e => (I.hok b ob e).stay (fun c w' hc q => (sb.2 c ?_).trans q) (fun _ q => q) fun _ _ q => q
    rintro rfl
    rcases hc with rfl | hc
    · rw [hH] at e; cases e
    · rw [hH] at hc; cases hc
  · rw [List.mem_singleton.mp hb]
    exact ⟨.inr h0, h1, h2, h3⟩
theorem ps_setComp {X : Cx} {own : List Str} {js : List Nat} {scope : Scope} {tg iter elt : Expr} {ifs : List Expr} {pos spos py : Pos} {g : TG} {ti : TT} {te : TE} {wi : TI2} {i : Nat} {y : Str} (hN : X.N.Nodup) (hy : X.N[i]? = some y) (hl : Loc X.env.scope y) (S : scB X own js scope = true) (hc : X.calm = true) (hit : PI2 X tg iter wi)
    (hg : ∀ C s H fp, PG (cxB X own js scope C s H fp) tg g) (hi : ∀ C s H fp, PIfs (cxB X own js scope C s H fp) ifs ti) (he : ∀ C s H fp, PE (cxB X own js scope C s H fp) elt te)
    (hsw : swapsWith (.ListComp elt [⟨tg, iter, ifs, 0⟩] scope pos) (some (.Name y py)) spos.line X.env = pure true)
    (hf : X.fn y = true ∨ X.env.scope.names.lookup y = some .local)
    (hs : ∀ x, foldedSetIterable iter X.env x = pure x) :
    PS X (.Assign [.Name y py] (.ListComp elt [⟨tg, iter, ifs, 0⟩] scope pos) spos) (tAsg (tComp2 own js wi g ti te) (gName i)) := by
  have SB := scB_of S
  intro pins s σ H D I h
  rw [exec_Assign_Name_used _ _ _ _ hsw]
  refine wpAny_bind (wpAny_standAt (wpAny_bind ?_))
  show wpAny _ X.A (do let _ ← comprehension (.ListComp elt [⟨tg, iter, ifs, 0⟩] scope pos) scope X.env _ (newList []) false (eval iter X.env) (some (assign (.Name y py) X.env))) _ _ s
  refine wpAny_bind (wpAny_mono (wpAny_comprehension_free (use := some (assign (.Name y py) X.env)) (Q := fun _ s' => SP X pins D .next s') rfl hs (closure_eq (SB.cells I)) SB.kind SB.names (thn (hit pins s σ H _ I h) fun v s1 h1 => thn h1 fun itv s2 h2 => ?_)) (fun _ s' hq => wpAny_pure (wpAny_pure hq)) fun _ _ e => e)
  obtain ⟨it, fp, tn, J, H2, e, I2, T, st2, f2, th, hth, W, ⟨m0, w0⟩, turn⟩ := h2
  subst e
  refine wpAny_newObj_type (wpAny_newFunctionEnv SB.nocell (by intro y hy; simp at hy) (fun h₁ hns₁ hsb₁ => ?_) SB.kind)
  dsimp only at hns₁ hsb₁ ⊢
  generalize hH2 : s2.heap.push { cls := .type "list", dict := none, data := .seq ([] : List Value).toArray } = G2 at hns₁ hsb₁ ⊢
  have hCs : G2.objs.size = s2.heap.objs.size + 1 := by rw [← hH2, Heap.size_push]
  have hDC : s2.heap.objs.size ≠ G2.objs.size := by rw [hCs]; exact Nat.ne_of_lt (Nat.lt_succ_self _)
  have hC : s2.heap.objs.size ≤ G2.objs.size := by rw [hCs]; exact Nat.le_succ _
  have old : ∀ b o, s2.heap.get? b = some o → h₁.get? b = some o := fun b o e =>
    hsb₁.extBut b o (Nat.ne_of_lt (Nat.lt_of_lt_of_le (Heap.lt_size e) hC)) (Heap.get?_push_of_some _ (hH2 ▸ Heap.get?_push_of_some _ e))
  have off : ∀ b o, s2.heap.get? b = some o → b ≠ G2.objs.size := fun b o e => Nat.ne_of_lt (Nat.lt_of_lt_of_le (Heap.lt_size e) hC)
  have hob : ∀ b ∈ fp, ∃ o, s2.heap.get? b = some o := fun b hb => let ⟨o, e, _⟩ := T.obj _ _ st2 b hb; ⟨o, e⟩
  have hacc : h₁.get? s2.heap.objs.size = some { cls := .type "list", data := .seq ([] : List Value).toArray } :=
    hsb₁.extBut _ _ hDC (Heap.get?_push_of_some _ (hH2 ▸ Heap.get?_push_size _ rfl))
  have loop : ∀ s3 : Shared, s3 = { s2 with heap := h₁, toks := s2.toks + ([] : List (Str × Value)).length } →
      codeAny (model X.prog X.w) X.A (.compLoop (.ListComp elt [⟨tg, iter, ifs, 0⟩] scope pos) 0 (.ref it) (.ref s2.heap.objs.size) (compEnvC scope (clOf scope X.env) G2.objs.size X.env))
        (compPost (model X.prog X.w) X.A X.xe (some (assign (.Name y py) X.env)) (fun _ s' => SP X pins D .next s') (.ref s2.heap.objs.size) G2.objs.size) s3 := by
    rintro s3 rfl
    refine comp_loop (K := fun out H' => gName i (.ref s2.heap.objs.size) σ (th (upd H' s2.heap.objs.size (.lst out))) D.nx) SB hc T I2 f2 (Nat.le_refl _) hC hDC hob (hg _ _ _ _) (hi _ _ _ _) (he _ _ _ _) W (fun i m out H' w => ?_) (fun out H' s' B hl' k => ?_) w0
      ⟨Inv.block SB I2 f2 hob hC hns₁ old, I2.hok.fresh (Nat.le_refl _), [], _, .nil, hacc⟩ (T.keep _ _ _ st2 fun b _ o e => old b o e) (fun b hb => (f2 b hb).1)
    · rcases turn i m out H' w with ⟨a, b⟩ | c
      · exact .inl ⟨a, fun n => b _ n⟩
      · exact .inr c
    · obtain ⟨mm, hn, _⟩ := B.inv.loc
      have hHC : H' G2.objs.size = none := B.inv.free
      have IJ := B.out I2 f2 (Nat.le_refl _) hC hDC hl' (h' := s'.heap) (Heap.SameBut.refl _ _)
      show wpAny _ X.A (assign (.Name y py) X.env (.ref s2.heap.objs.size)) _ _ s'
      refine wpAny_assign_Name (store_ok2 IJ hN hy hl (v := .ref s2.heap.objs.size) rfl (fun s'' I'' hx => ?_) hf)
      obtain ⟨a, sa, ha⟩ := hx
      have haC : G2.objs.size ≠ a := by
        rcases ha with rfl | ha
        · exact Ne.symm (Nat.ne_of_lt (Nat.lt_of_lt_of_le I2.lt hC))
        · obtain ⟨_, o, ho, _⟩ := I2.cell _ _ ha
          exact Ne.symm (off _ _ ho)
      refine ⟨mm, hn.sameBut sa haC, fun h' sb => ⟨_, _, hth _ _ _ _ (I''.off (by rw [upd_ne (Ne.symm hDC)]; exact hHC) (Nat.le_trans I2.sz hC) (Ne.symm (Nat.ne_of_lt (Nat.lt_of_lt_of_le I2.lt hC))) (fun x c e => ?_) (fun p hp => off _ _ (I2.pin p hp).1) sb), k⟩⟩
      obtain ⟨_, o, ho, _⟩ := I2.cell _ _ e
      exact off _ _ ho
  exact codeAny_compStart_list (loop _ rfl) (T.self _ 0 _ _ _ (T.keep _ _ _ st2 fun b _ o e => old b o e) (loop _ rfl))
theorem qSetComp {X : Cx} {own : List Str} {js : List Nat} {scope : Scope} {tg iter elt : Expr} {ifs : List Expr} {pos spos py : Pos} {g : TG} {ti : TT} {te : TE} {wi : TI2} {i : Nat} {y : Str} (hN : X.N.Nodup) (hy : X.N[i]? = some y) (hl : Loc X.env.scope y) (S : scB X own js scope = true) (hc : X.calm = true) (hit : QI X tg iter wi)
    (hg : ∀ C s H fp, QG (cxB X own js scope C s H fp) tg g) (hi : ∀ C s H fp, QIf (cxB X own js scope C s H fp) ifs ti) (he : ∀ C s H fp, QE (cxB X own js scope C s H fp) elt te)
    (hsw : swapsWith (.ListComp elt [⟨tg, iter, ifs, 0⟩] scope pos) (some (.Name y py)) spos.line X.env = pure true := by rfl)
    (hf : X.fn y = true ∨ X.env.scope.names.lookup y = some .local := by first | exact .inl rfl | exact .inr rfl)
    (hs : ∀ x, foldedSetIterable iter X.env x = pure x := by intro _; rfl) : QS X (.Assign [.Name y py] (.ListComp elt [⟨tg, iter, ifs, 0⟩] scope pos) spos) (tAsg (tComp2 own js wi g ti te) (gName i)) :=
  ⟨ps_setComp hN hy hl S hc hit.r (fun C s H fp => (hg C s H fp).r) (fun C s H fp => (hi C s H fp).r) (fun C s H fp => (he C s H fp).r) hsw hf hs⟩
end L2
set_option Elab.async false
set_option linter.all false
set_option maxRecDepth 100000
set_option maxHeartbeats 4000000
namespace L2
open PySem PySem.Spec PyProof.Rows
open PySem.AutoSeq1 (wpAny_loadPart')
def NcP (P : Program) (w : World) (A : Around) (s : Shared) (y x : Value) (b : Bool) : Prop := ∀ (E : Value → Shared → Prop) (Q : Value → Shared → Prop), Q (.bool b) s → wpAny (model P w) A (richCompare .NotEq y x) Q E s
theorem tupNeP {P : Program} {w : World} (l m : Addr) (xs ys : Array Value) (n1 n2 : Nat) (d1 d2 : Option Addr) (s1 s2 : Array (Option Value)) (f : Nat → Bool) :
    MeetsIn P w (Builtin.«tuple.__ne__» ⟨[.ref l, .ref m], []⟩) (fun A R s =>
      s.heap.get? l = some { cls := .type "tuple", dict := d1, data := .seq xs n1, slots := s1 } ∧ s.heap.get? m = some { cls := .type "tuple", dict := d2, data := .seq ys n2, slots := s2 } ∧
      (∀ j (g1 : j < xs.size) (g2 : j < ys.size), EqP P w A.in1 s xs[j] ys[j] (f j)) ∧
      R (.ok (.ret (.bool (!((List.range (min xs.size ys.size)).all f && xs.size == ys.size))))) s) :=
  .of_wp fun A R s hyp => by
    obtain ⟨hp, gg, dr, tk, os⟩ := s
    obtain ⟨e1, e2, he, fin⟩ := hyp
    have sub := AutoSeq1.sub_tuple_tuple
    have len : (xs.toList.zip ys.toList).length = min xs.size ys.size := by simp
    wp_walk using wpAny_loadPart' e1, wpAny_loadPart' e2, wpAny_forIn_list _ (fun more acc st => acc.1 = none ∧ st = ⟨hp, gg, dr, tk, os⟩ ∧ ∃ i, more = (xs.toList.zip ys.toList).drop i ∧
      R (.ok (.ret (.bool (!(((List.range (min xs.size ys.size)).drop i).all f && xs.size == ys.size))))) ⟨hp, gg, dr, tk, os⟩) _
    case turn =>
      rintro ⟨y, x⟩ more acc st ⟨ha, rfl, i, hi, hR⟩
      have lt : i < (xs.toList.zip ys.toList).length := by
        rcases Nat.lt_or_ge i (xs.toList.zip ys.toList).length with z | z
        · exact z
        · rw [List.drop_of_length_le z] at hi
          cases hi
      have lm : i < min xs.size ys.size := len ▸ lt
      have lx : i < xs.size := Nat.lt_of_lt_of_le lm (Nat.min_le_left _ _)
      have ly : i < ys.size := Nat.lt_of_lt_of_le lm (Nat.min_le_right _ _)
      rw [List.drop_eq_getElem_cons lt] at hi
      injection hi with h1 h2
      have q1 : y = xs[i] := by simpa using congrArg Prod.fst h1
      have q2 : x = ys[i] := by simpa using congrArg Prod.snd h1
      subst q1 q2
      have dr1 : (List.range (min xs.size ys.size)).drop i = i :: (List.range (min xs.size ys.size)).drop (i + 1) := by simp [List.drop_eq_getElem_cons, lm]
      rw [dr1, List.all_cons] at hR
      refine wpAny_bind (he i lx ly _ _ ?_)
      cases hf : f i with
      | true =>
        rw [hf] at hR
        wp_walk
        exact ⟨rfl, rfl, i + 1, h2, by simpa using hR⟩
      | false =>
        rw [hf] at hR
        wp_walk
        exact ⟨_, rfl, by simpa using hR⟩
    case fin =>
      rintro ⟨c1, c2⟩ st ⟨ha, rfl, i, hi, hR⟩
      simp only at ha
      subst ha
      have ge : min xs.size ys.size ≤ i := by
        rcases Nat.lt_or_ge i (xs.toList.zip ys.toList).length with z | z
        · rw [List.drop_eq_getElem_cons z] at hi
          cases hi
        · exact len ▸ z
      rw [List.drop_of_length_le (by simpa using ge)] at hR
      wp_walk
      exact ⟨_, rfl, by simpa [Builtin.Tuple.tupleCompareSizes, bne] using hR⟩
    case h =>
      exact ⟨rfl, rfl, 0, rfl, by simpa using fin⟩
theorem NcP.tup {P : Program} {w : World} {A : Around} {s : Shared} {l m : Addr} {xs ys : Array Value} {f : Nat → Bool} (hl : s.heap.IsTuple l xs) (hm : s.heap.IsTuple m ys) (hu : A.units < cLine)
    (he : ∀ j (g1 : j < xs.size) (g2 : j < ys.size), EqP P w A.in1 s xs[j] ys[j] (f j)) : NcP P w A s (.ref l) (.ref m) (!((List.range (min xs.size ys.size)).all f && xs.size == ys.size)) := fun E Q q => by
  obtain ⟨⟨c1, d1, a1, s1⟩, o1, k1, n1, t1⟩ := id hl
  obtain ⟨⟨c2, d2, a2, s2⟩, o2, k2, n2, t2⟩ := id hm
  simp only at k1 t1 k2 t2
  subst k1 t1 k2 t2
  refine wpAny_richCompare_same_room (op := .NotEq) ⟨_, o1, rfl⟩ ⟨_, o2, rfl⟩ PySem.F.slot_tuple_ne (call_meetsIn PySem.F.slot_tuple_ne ⟨_, o1, rfl⟩ PySem.F.entry_tuple_ne (PySem.F.args_tuple_ne_2 _ _) (tupNeP l m xs ys n1 n2 d1 d2 s1 s2 f) ⟨o1, o2, he, ?_⟩) hu
  exact ⟨(fun z => nomatch z), q⟩
section
variable {X : Cx} {pins : List (Addr × Obj)} {σ : St} {H : Hp} {s : Shared} {A : Around}
def rNeW (K : PySem.W.Frag) : R2 := fun x y H Q => ∃ a b p q p' q' r r', x = .ref a ∧ y = .ref b ∧ SqT K H a [.ref p, .ref q] ∧ SqT K H b [.ref p', .ref q'] ∧ EqD K H p p' r ∧ EqD K H q q' r' ∧ Q (.bl (!(r && r'))) H
theorem op_neW (hu : X.A.units + 64 < cLine) : OpR X (compareOp .NotEq) (rNeW X.K) := by
  intro pins s σ H x y v u Q I rx ry h
  obtain ⟨a, b, p, q, p', q', r, r', rfl, rfl, ha, hb, h1, h2, k⟩ := h
  cases rx
  cases ry
  obtain ⟨its, v1, t1, _⟩ := I.tuple ha
  obtain ⟨its', v2, t2, _⟩ := I.tuple hb
  obtain ⟨_, _, rfl, e1, e2⟩ := vals2 v1
  obtain ⟨_, _, rfl, e3, e4⟩ := vals2 v2
  cases e1
  cases e2
  cases e3
  cases e4
  refine NcP.tup (P := X.prog) (w := X.w) (f := fun j => if j = 0 then r else r') (show s.heap.IsTuple a _ from t1) (show s.heap.IsTuple b _ from t2) (by lia) (fun j g1 g2 => ?_) _ _ ⟨.bl (!(r && r')), H, I, by show Value.bool _ = Value.bool _; simp [List.range_succ], k⟩
  have g : j < 2 := by simpa using g1
  match j, g with
  | 0, _ => exact h1.at_ I (by show X.A.units + 1 + 16 < _; lia)
  | 1, _ => exact h2.at_ I (by show X.A.units + 1 + 16 < _; lia)
def rNeL (K : PySem.W.Frag) : R2 := fun x y H Q => ∃ a b xs ys, x = .ref a ∧ y = .ref b ∧ SqL K H a xs ∧ SqL K H b ys ∧ xs.all flatV = true ∧ ys.all flatV = true ∧ Q (.bl (!eqVs xs ys)) H
theorem op_neL (hu : X.A.units + 64 < cLine) : OpR X (compareOp .NotEq) (rNeL X.K) := by
  intro pins s σ H x y v u Q I rx ry h
  obtain ⟨a, b, xs, ys, rfl, rfl, ha, hb, fx, fy, k⟩ := h
  cases rx
  cases ry
  obtain ⟨its, r1, p1, z1⟩ := I.list ha
  obtain ⟨its', r2, p2, z2⟩ := I.list hb
  have l1 := r1.length
  have l2 := r2.length
  have e3 : its.toArray.size = xs.length := by simp [l1]
  have e4 : its'.toArray.size = ys.length := by simp [l2]
  by_cases hl : xs.length = ys.length
  · have q := SeqAt.RcNeAt.lists (A := X.A) (e := fun j => eqV (xs.getD j .non) (ys.getD j .non)) p1.isList p2.isList (by rw [e3, e4]; exact hl) (by lia) fun j g1 g2 => by
      have g1' : j < its.length := by simpa using g1
      have g2' : j < its'.length := by simpa using g2
      have x1 : xs[j]? = some (xs[j]'(by lia)) := by simp [show j < xs.length by lia]
      have y1 : ys[j]? = some (ys[j]'(by lia)) := by simp [show j < ys.length by lia]
      obtain ⟨u1, hu1, ru1⟩ := r1.get x1
      obtain ⟨u2, hu2, ru2⟩ := r2.get y1
      have e1 : its.toArray[j] = u1 := by
        have := List.getElem?_eq_getElem g1'
        rw [hu1] at this
        simpa using (Option.some.inj this).symm
      have e2 : its'.toArray[j] = u2 := by
        have := List.getElem?_eq_getElem g2'
        rw [hu2] at this
        simpa using (Option.some.inj this).symm
      rw [e1, e2]
      have d1 : xs.getD j .non = xs[j]'(by lia) := by rw [List.getD_eq_getElem?_getD, x1]; rfl
      have d2 : ys.getD j .non = ys[j]'(by lia) := by rw [List.getD_eq_getElem?_getD, y1]; rfl
      rw [d1, d2]
      exact eqAt_V ru1 ru2 (List.all_eq_true.mp fx _ (List.getElem_mem _)) (List.all_eq_true.mp fy _ (List.getElem_mem _))
    have e5 := eqVs_range xs ys
    rw [hl, Nat.min_self, beq_self_eq_true, Bool.and_true] at e5
    rw [e3, hl, e5] at q
    exact q X.prog X.w _ _ ⟨.bl _, H, I, rfl, k⟩
  · refine SeqAt.RcNeAt.lists_lengths (A := X.A) p1.isList p2.isList (by rw [e3, e4]; simpa using hl) (by lia) X.prog X.w _ _ ⟨.bl _, H, I, ?_, k⟩
    rw [eqVs_len hl]; rfl
def rNeT (K : PySem.W.Frag) : R2 := fun x y H Q => (∃ a b xs ys, x = .ref a ∧ y = .ref b ∧ SqT K H a xs ∧ SqT K H b ys ∧ xs.all flatV = true ∧ ys.all flatV = true ∧ Q (.bl (!eqVs xs ys)) H) ∨ (∃ a xs, x = .non ∧ y = .ref a ∧ SqT K H a xs ∧ Q (.bl true) H)
theorem op_neT (hu : X.A.units + 64 < cLine) : OpR X (compareOp .NotEq) (rNeT X.K) := by
  intro pins s σ H x y v u Q I rx ry h
  rcases h with ⟨a, b, xs, ys, rfl, rfl, ha, hb, fx, fy, k⟩ | ⟨a, xs, rfl, rfl, ha, k⟩
  · cases rx
    cases ry
    obtain ⟨its, r1, p1, z1⟩ := I.tuple ha
    obtain ⟨its', r2, p2, z2⟩ := I.tuple hb
    have l1 := r1.length
    have l2 := r2.length
    have q := SeqAt.RcNeAt.tuples (A := X.A) (e := fun j => eqV (xs.getD j .non) (ys.getD j .non)) (show s.heap.IsTuple a its.toArray from p1) (show s.heap.IsTuple b its'.toArray from p2) (by lia) fun j g1 g2 => by
      have g1' : j < its.length := by simpa using g1
      have g2' : j < its'.length := by simpa using g2
      have x1 : xs[j]? = some (xs[j]'(by lia)) := by simp [show j < xs.length by lia]
      have y1 : ys[j]? = some (ys[j]'(by lia)) := by simp [show j < ys.length by lia]
      obtain ⟨u1, hu1, ru1⟩ := r1.get x1
      obtain ⟨u2, hu2, ru2⟩ := r2.get y1
      have e1 : its.toArray[j] = u1 := by
        have := List.getElem?_eq_getElem g1'
        rw [hu1] at this
        simpa using (Option.some.inj this).symm
      have e2 : its'.toArray[j] = u2 := by
        have := List.getElem?_eq_getElem g2'
        rw [hu2] at this
        simpa using (Option.some.inj this).symm
      rw [e1, e2]
      have d1 : xs.getD j .non = xs[j]'(by lia) := by rw [List.getD_eq_getElem?_getD, x1]; rfl
      have d2 : ys.getD j .non = ys[j]'(by lia) := by rw [List.getD_eq_getElem?_getD, y1]; rfl
      rw [d1, d2]
      exact eqAt_V ru1 ru2 (List.all_eq_true.mp fx _ (List.getElem_mem _)) (List.all_eq_true.mp fy _ (List.getElem_mem _))
    have e3 : its.toArray.size = xs.length := by simp [l1]
    have e4 : its'.toArray.size = ys.length := by simp [l2]
    rw [e3, e4, eqVs_range] at q
    exact q X.prog X.w _ _ ⟨.bl _, H, I, rfl, k⟩
  · cases rx
    cases ry
    obtain ⟨its, r1, p1, z1⟩ := I.tuple ha
    exact SeqAt.RcNeAt.none_tuple (A := X.A) (show s.heap.IsTuple a its.toArray from p1) (by lia) X.prog X.w _ _ ⟨.bl true, H, I, rfl, k⟩
def rEqDD (K : PySem.W.Frag) : R2 := fun x y H Q => ∃ a b ka kb r0, x = .ref a ∧ y = .ref b ∧ Rd H a (.dK ka) ∧ Rd H b (.dK kb) ∧ EqH K H kb ka r0 ∧ Q (.bl (ka.length == kb.length && r0)) H
def rNeDD (K : PySem.W.Frag) : R2 := fun x y H Q => ∃ a b ka kb r0, x = .ref a ∧ y = .ref b ∧ Rd H a (.dK ka) ∧ Rd H b (.dK kb) ∧ EqH K H kb ka r0 ∧ Q (.bl (!(ka.length == kb.length && r0))) H
theorem op_eqDD (hu : X.A.units + 64 < cLine) : OpR X (compareOp .Eq) (rEqDD X.K) := by
  intro pins s σ H x y v u Q I rx ry h
  obtain ⟨a, b, ka, kb, r0, rfl, rfl, h1, h2, h3, k⟩ := h
  cases rx
  cases ry
  obtain ⟨z1, d1, va, ra, da⟩ := dk_rd I.hok h1
  obtain ⟨z2, d2, vb, rb, db⟩ := dk_rd I.hok h2
  have l1 := KV.length ra
  have l2 := KV.length rb
  exact PySem.W.keq_eq (knd := mixKind X.prog X.w) d1 d2 da db (by lia) (fun _ => h3.hits (A := X.A.in1) I (by show X.A.units + 1 + 8 < _; lia) rb ra) ⟨.bl _, H, I, rfl, by rw [← l1, ← l2]; exact k⟩
theorem op_neDD (hu : X.A.units + 64 < cLine) : OpR X (compareOp .NotEq) (rNeDD X.K) := by
  intro pins s σ H x y v u Q I rx ry h
  obtain ⟨a, b, ka, kb, r0, rfl, rfl, h1, h2, h3, k⟩ := h
  cases rx
  cases ry
  obtain ⟨z1, d1, va, ra, da⟩ := dk_rd I.hok h1
  obtain ⟨z2, d2, vb, rb, db⟩ := dk_rd I.hok h2
  have l1 := KV.length ra
  have l2 := KV.length rb
  exact PySem.W.keq_ne (knd := mixKind X.prog X.w) d1 d2 da db (by lia) (fun _ => h3.hits (A := X.A.in1) I (by show X.A.units + 1 + 8 < _; lia) rb ra) ⟨.bl _, H, I, rfl, by rw [← l1, ← l2]; exact k⟩
def rEqY (K : PySem.W.Frag) : R2 := fun x y H Q => rEqX K x y H Q ∨ rEqDD K x y H Q
theorem kEqY (K : PySem.W.Frag) {k : Nat} (hr : Room k X.A) (h : X.K = K := by rfl) : OpR X (compareOp .Eq) (rEqY K) := (kEq K hr h).or (h ▸ op_eqDD hr.units)
def rNeX (K : PySem.W.Frag) : R2 := fun x y H Q => rNe x y H Q ∨ rNeL K x y H Q ∨ rNeT K x y H Q ∨ rNeW K x y H Q ∨ rNeDD K x y H Q
theorem kNe (K : PySem.W.Frag) {k : Nat} (hr : Room k X.A) (h : X.K = K := by rfl) : OpR X (compareOp .NotEq) (rNeX K) := h ▸ op_ne.or ((op_neL hr.units).or ((op_neT hr.units).or ((op_neW hr.units).or (op_neDD hr.units))))
end
section
variable {K : PySem.W.Frag} {H : Hp} {Q : VK}
theorem y_eq {x y : V} (q : rEqX K x y H Q) : rEqY K x y H Q := .inl q
theorem n_ne_int {i j : Int} (q : Q (.bl (!decide (i = j))) H) : rNeX K (.int i) (.int j) H Q := .inl (r_ne_int q)
end
section
variable {X : Cx} {o e f : Expr} {apos cpos : Pos} {td ty tx : TE} {name : Str}
theorem m1_of (hb : attributeBase o name X.env (eval o X.env) = eval o X.env) (hl : (apos.endLine == cpos.line) = true) (h : notStar e = true) : M1 X o name apos e cpos := by
  have z : starEach [e] X.env = [(false, eval e X.env)] := se_of (es := []) h
  have z2 : backTo cpos (starEach [e] X.env) = [(false, eval e X.env)] := by rw [z]; rfl
  exact ⟨hb, by rw [z2]; rfl, hl, z2⟩
theorem qGet1 (hu : X.A.units + 1 < cLine) (ho : QE X o td) (he : QE X e ty) (hb : attributeBase o "get" X.env (eval o X.env) = eval o X.env := by rfl) (hl : (apos.endLine == cpos.line) = true := by rfl) (h : notStar e = true := by rfl) :
    QE X (.Call (.Attribute o "get" apos) [e] [] cpos) (tDGet1 td ty) := ⟨pe_dget1 hu ho.r he.r (m1_of hb hl h)⟩
end
section
variable {σ : St} {H : Hp} {Q : VK} {td ty tx : TE}
theorem r_get (q : td σ H fun x H1 => ∃ a, x = .ref a ∧ IsD H1 a ∧ ty σ H1 fun y H2 => ∃ o, DGet H2 a y o ∧ Q (o.getD .non) H2) : tDGet1 td ty σ H Q := q
end
end L2
set_option Elab.async false
set_option linter.all false
set_option maxRecDepth 100000
set_option maxHeartbeats 4000000
namespace L2
open PySem PySem.Spec PyProof.Rows
open Sem (wp)
section
variable {prog : Program} {w : World} {KT : Type} [DecidableEq KT] {knd : KeyKind prog w KT} {A : Around} {E : Value → Shared → Prop} {s : Shared}
end
section
variable {prog : Program} {w : World} {KT : Type} [DecidableEq KT] {knd : KeyKind prog w KT} {A : Around} {E : Value → Shared → Prop} {s : Shared}
open PySem.AutoSeq1 (wpAny_loadPart')
end
section
variable {X : Cx} {a : Expr} {t : TA} {p pos : Pos}
end
section
variable {K : PySem.W.Frag} {σ : St} {H : Hp} {ta : TA} {R : It → (Hp → Hp) → Hp → Prop}
end
end L2
set_option Elab.async false
set_option linter.all false
set_option maxRecDepth 100000
set_option maxHeartbeats 4000000
namespace L2
open PySem PySem.Spec PyProof.Rows
open Sem (wp)
theorem lk_list_keys : typeLookup (.type "list") "keys" = pure none := by rw [typeLookup_type, builtinLookup_eq_fast]; kernel_rfl
section
variable {prog : Program} {w : World} {A : Around} {E : Value → Shared → Prop} {s : Shared}
theorem keys_miss {a : Addr} {o : Obj} {xs : Array Value} {k : Nat} {Q : Option Value → Shared → Prop}
    (hx : s.heap.get? a = some o) (hc : o.cls = .type "list") (hdat : o.data = .seq xs k) (hd : o.dict = none) (hA : A.handled = none)
    (h : ∀ h' tk, (∀ b ob, s.heap.get? b = some ob → h'.get? b = some ob) → Q none { s with heap := h', toks := tk }) :
    wpAny (model prog w) A (getAttr? (.ref a) "keys") Q E s := by
  obtain ⟨c, dct, dat, sl⟩ := o
  simp only at hc hdat hd
  subst hc hdat hd
  obtain ⟨hp, g, d, tk, os⟩ := s
  have hT : ∀ tk', (⟨hp, g, d, tk', os⟩ : Shared).TypeIs (.ref a) "list" := fun _ => ⟨_, hx, rfl⟩
  have f1 := sub_AttributeError
  have f3 := F.slot_list_getattribute.lookup
  have f4 := F.slot_list_getattribute.bind (.ref a)
  have f5 := am_list_getattr_none
  unfold getAttr? getAttrBy? getAttrBy
  repeat (any_goals (first | assumption | exact hT _ | ((with_reducible show wpAny _ _ (call (Value.builtin "list.__getattribute__") _ _) _ _ _); refine call_meets F.slot_list_getattribute (hT _) am_entry_list_getattribute (F.args_list_getattribute_2 _ _) (meets_getattribute_miss_list a xs k sl "keys" _ lk_list_keys (by decide +kernel) (by decide +kernel)) ⟨hx, hA, fun h' tk' e hx' => ?_⟩) | wp_step))
  obtain ⟨t', u', he⟩ := hx'.there
  show wpAny _ _ (getattributeRaised _ _ _ _ _ _ _) _ _ _
  unfold getattributeRaised
  repeat (any_goals (first | assumption | wp_step))
  exact h _ _ hx'.keeps
end
theorem entry_upd_loop : entryFor table "dict.update.loop" = some Builtin.«dict.update.loop» := entryFor_of_tree (by kernel_rfl)
theorem plain_upd_loop : plainId "dict.update.loop" = true := by decide +kernel
section
variable {prog : Program} {w : World} {KT : Type} [DecidableEq KT] {knd : KeyKind prog w KT} {A : Around} {E : Value → Shared → Prop}
def PairAt (knd : KeyKind prog w KT) (h : Heap) (d it : Addr) (u : Value) (kv : KT × Value) : Prop := ∃ t key, u = .ref t ∧ h.IsTuple t #[key, kv.2] ∧ knd.is kv.1 key = true ∧ t ≠ d ∧ t ≠ it
theorem PairAt.keep {h h' : Heap} {d it : Addr} {u : Value} {kv : KT × Value} (p : PairAt knd h d it u kv) (k : ∀ b o, b ≠ d → b ≠ it → h.get? b = some o → h'.get? b = some o) : PairAt knd h' d it u kv := by
  obtain ⟨t, key, e, ⟨o, ho, r⟩, hk, h1, h2⟩ := p
  exact ⟨t, key, e, ⟨o, k t o h1 h2 ho, r⟩, hk, h1, h2⟩
theorem dict_loop {d it l : Addr} {items : List Value} {res : Value} (hh : A.handled = none) (hdi : d ≠ it) (hli : l ≠ it) (hld : l ≠ d) :
    ∀ (more : List (KT × Value)) (i : Nat) (s : Shared) (kvs : List (KT × Value)) (R : Result → Shared → Prop),
      s.heap.IsListIter it l i → s.heap.IsList l items.toArray → Paired (PairAt knd s.heap d it) (items.drop i) more → s.heap.DictOf knd d kvs → kvs.length + more.length ≤ sizeLine →
      (∀ h' tk, (∀ b o, b ≠ d → b ≠ it → s.heap.get? b = some o → h'.get? b = some o) → h'.DictOf knd d (more.foldl (fun a x => stored a x.1 x.2) kvs) → R (.ok (.ret res)) { s with heap := h', toks := tk }) →
      codeAny (model prog w) A (.builtin "dict.update.loop" ⟨[.ref d, .ref it, rawInt (i : Int), res], []⟩) R s := by
  intro more
  induction more with
  | nil =>
    intro i s kvs R hit hl hp hd hz hR
    have hx : items.toArray[i]? = none := by
      have hn : items.drop i = [] := by cases hp' : items.drop i with
        | nil => rfl
        | cons x r => rw [hp'] at hp; cases hp
      have := List.drop_eq_nil_iff.mp hn
      simp; lia
    refine codeAny_builtin entry_upd_loop ?_
    rw [Around.under_plainId plain_upd_loop _]
    show wpAny _ A.in1 (pyNext (.ref it) >>= _) _ _ s
    refine wpAny_bind (wpAny_pyNext_list_end (A := A.in1) hh hit hl hx fun h' eb => ?_)
    show wpAny _ A.in1 (Builtin.Dict.addKeywords d [] >>= _) _ _ _
    refine wpAny_bind (wpAny_pure (wpAny_pure ?_))
    exact hR h' s.toks (fun b o h1 h2 e => eb b o h2 e) (hd.extBut eb hdi)
  | cons kv more ih =>
    intro i s kvs R hit hl hp hd hz hR
    obtain ⟨x, hx, hp0, hp1⟩ : ∃ x, items.toArray[i]? = some x ∧ PairAt knd s.heap d it x kv ∧ Paired (PairAt knd s.heap d it) (items.drop (i + 1)) more := by
      cases hp' : items.drop i with
      | nil => rw [hp'] at hp; cases hp
      | cons x r =>
        rw [hp'] at hp
        cases hp with
        | cons h1 h2 =>
          refine ⟨x, ?_, h1, ?_⟩
          · have z := congrArg List.head? hp'
            simpa using z
          · have z := congrArg List.tail hp'
            rw [List.tail_drop] at z
            rw [z]; exact h2
    obtain ⟨t, key, rfl, ⟨ot, hot, hct, nt, hdt⟩, hkey, h1, h2⟩ := hp0
    refine codeAny_builtin entry_upd_loop ?_
    rw [Around.under_plainId plain_upd_loop _]
    show wpAny _ A.in1 (pyNext (.ref it) >>= _) _ _ s
    refine wpAny_bind (wpAny_pyNext_list_item hit hl hx fun h' hit' hs' => ?_)
    have hot' : h'.get? t = some ot := hs'.extBut _ _ h2 hot
    refine wpAny_bind (wpAny_holding (wpAny_bind (wpAny_tryCatch ?_)))
    unfold Builtin.Dict.pairItems
    refine wpAny_bind (wpAny_typeOf (s := { s with heap := h' }) ⟨_, hot', hct⟩ ?_)
    rw [if_pos (by decide)]
    refine wpAny_bind (wpAny_seqItems (s := { s with heap := h' }) hot' hdt ?_)
    refine wpAny_pure ?_
    show wpAny _ A.in1 (holding [key, kv.2] (dictSet d key kv.2)) _ _ _
    refine wpAny_holding (wpAny_dictSet_pairs (s := { s with heap := h' }) (kvs := kvs) hkey (hd.extBut hs'.extBut hdi) (fun h'' dd hs'' => ?_) (by simp only [List.length_cons] at hz; lia))
    have kp : ∀ b o, b ≠ d → b ≠ it → s.heap.get? b = some o → h''.get? b = some o := fun b o hb1 hb2 e => hs''.extBut b o hb1 (hs'.extBut b o hb2 e)
    refine wpAny_pure ⟨plainId_quiet plain_upd_loop _, ?_⟩
    refine ih (i + 1) _ (stored kvs kv.1 kv.2) R ?_ ?_ (Paired.imp' (fun _ _ z => z.keep kp) hp1) dd ?_ (fun h3 tk k3 d3 => hR h3 tk (fun b o e1 e2 e => k3 b o e1 e2 (kp b o e1 e2 e)) d3)
    · exact hit'.at fun o e => hs''.extBut it o (Ne.symm hdi) e
    · obtain ⟨ol, hol, r⟩ := hl
      exact ⟨ol, kp l ol hld hli hol, r⟩
    · have z := stored_length_le kvs kv.1 kv.2
      simp only [List.length_cons] at hz
      lia
theorem call_dict_pairs {l : Addr} {items : List Value} {o : Obj} {n : Nat} {more : List (KT × Value)} {s : Shared} {Q : Value → Shared → Prop} (hh : A.handled = none) (ho : s.heap.get? l = some o) (hc : o.cls = .type "list") (hdat : o.data = .seq items.toArray n) (hdn : o.dict = none) (hz : more.length ≤ sizeLine)
    (hp : Paired (fun u kv => ∃ t key, u = .ref t ∧ s.heap.IsTuple t #[key, kv.2] ∧ knd.is kv.1 key = true) items more)
    (h : ∀ h' tk, h'.DictOf knd s.heap.objs.size (more.foldl (fun a x => stored a x.1 x.2) []) → (∀ b o, s.heap.get? b = some o → h'.get? b = some o) → Q (.ref s.heap.objs.size) { s with heap := h', toks := tk }) :
    wpAny (model prog w) A (call (.type "dict") [.ref l]) Q E s := by
  refine callType_codes (Q₁ := fun obj s₁ => obj = .ref s.heap.objs.size ∧ s₁ = { s with heap := s.heap.push { cls := .type "dict", data := .dict #[] } }) F.kt_called_dict (F.kt_typeCall_dict_1 _) F.entry_dict_init (kt_code_dict_new _ ⟨rfl, rfl⟩) ?_
  rintro obj s₁ ⟨rfl, rfl⟩
  have hnew : (s.heap.push { cls := .type "dict", data := .dict #[] }).DictOf knd s.heap.objs.size [] := Heap.DictOf.new s.heap
  have hl0 : l ≠ s.heap.objs.size := Nat.ne_of_lt (Heap.lt_size ho)
  refine ⟨hnew.typeIs, F.args_dict_init_2 _ _, ?_⟩
  unfold Builtin.«dict.__init__»
  refine wpAny_bind ?_
  unfold Builtin.Dict.selfAndRest
  refine wpAny_bind (wpAny_notOrdered_dict hnew.typeIs ?_)
  show wpAny _ _ (pure (s.heap.objs.size, [Value.ref l])) _ _ _
  refine wpAny_pure ?_
  show wpAny _ _ (Builtin.Dict.updateFrom "dict.__init__" s.heap.objs.size (.ref l) [] .none) _ _ _
  unfold Builtin.Dict.updateFrom
  have ho1 : (s.heap.push { cls := .type "dict", data := .dict #[] }).get? l = some o := Heap.get?_push_of_some _ ho
  refine wpAny_bind (wpAny_typeOf (s := { s with heap := s.heap.push { cls := .type "dict", data := .dict #[] } }) ⟨_, ho1, hc⟩ ?_)
  rw [if_pos (by decide)]
  refine wpAny_bind (keys_miss (s := { s with heap := s.heap.push { cls := .type "dict", data := .dict #[] } }) ho1 hc hdat hdn hh fun h2 tk2 k2 => ?_)
  rw [if_pos (show ((none : Option Value).isNone) = true from rfl)]
  have ho2 : h2.get? l = some o := k2 l o ho1
  have hd2 : h2.DictOf knd s.heap.objs.size [] := let ⟨od, es, ep, e, r⟩ := hnew; ⟨od, es, ep, k2 _ _ e, r⟩
  have hlt : s.heap.objs.size < h2.objs.size := by obtain ⟨od, es, ep, e, r⟩ := hd2; exact Heap.lt_size e
  have up : ∀ b ob, s.heap.get? b = some ob → (h2.push { cls := .type "list_iterator", data := .fields #[.ref l, .int 0 0] }).get? b = some ob := fun b ob e => Heap.get?_push_of_some _ (k2 b ob (Heap.get?_push_of_some _ e))
  refine wpAny_bind (wpAny_rule (wpAny_bind (wpAny_pyIter_list (l := l) (items := items.toArray) ⟨o, ho2, hc, n, hdat⟩ ?_)))
  refine wpAny_pure ⟨plainId_quiet plain_upd_loop _, ?_⟩
  refine dict_loop (knd := knd) (l := l) (items := items) (A := A.in1) hh (Nat.ne_of_lt hlt) (Nat.ne_of_lt (Heap.lt_size ho2)) hl0 more 0 _ [] _ ⟨_, Heap.get?_push_size _ rfl, rfl, rfl⟩ ⟨o, Heap.get?_push_of_some _ ho2, hc, n, hdat⟩ ?_ (hd2.push _) (by simpa using hz) fun h3 tk k3 d3 => ⟨rfl, h h3 tk d3 fun b ob e => k3 b ob (Nat.ne_of_lt (Heap.lt_size e)) (Nat.ne_of_lt (Nat.lt_trans (Heap.lt_size e) hlt)) (up b ob e)⟩
  rw [List.drop_zero]
  refine Paired.imp' (fun u kv z => ?_) hp
  obtain ⟨t, key, rfl, ⟨ot, hot, r⟩, hk⟩ := z
  exact ⟨t, key, rfl, ⟨ot, up t ot hot, r⟩, hk, Nat.ne_of_lt (Heap.lt_size hot), Nat.ne_of_lt (Nat.lt_trans (Heap.lt_size hot) hlt)⟩
end
section
variable {X : Cx}
def PrV (K : PySem.W.Frag) (H : Hp) (x : V) (kv : Key × V) : Prop := ∃ t, x = .ref t ∧ SqT K H t [kV kv.1, kv.2]
def putsK (kvs : List (Key × V)) : List (Key × V) := kvs.foldl (fun a x => putK a x.1 x.2) []
theorem KV.puts : ∀ {ps : List (Key × V)} {qs : List (Key × Value)} {a : List (Key × V)} {b : List (Key × Value)}, KV ps qs → KV a b → KV (ps.foldl (fun a x => putK a x.1 x.2) a) (qs.foldl (fun a x => stored a x.1 x.2) b)
  | _, _, _, _, .nil, h => h
  | _ :: _, _ :: _, a, b, .cons r t, h => by
    obtain ⟨e, rv⟩ := r
    rw [List.foldl_cons, List.foldl_cons]
    refine KV.puts t ?_
    rw [← e]
    exact KV.put h _ rv
theorem length_puts : ∀ (ps : List (Key × V)) (a : List (Key × V)), (ps.foldl (fun a x => putK a x.1 x.2) a).length ≤ a.length + ps.length
  | [], a => Nat.le_refl _
  | p :: r, a => by
    rw [List.foldl_cons, List.length_cons]
    have z := length_puts r (putK a p.1 p.2)
    have z2 := length_putK a p.1 p.2
    lia
theorem prs_at {pins : List (Addr × Obj)} {σ : L2.St} {H : Hp} {s : Shared} (I : Inv X pins σ H s) : ∀ {xs : List V} {kvs : List (Key × V)} {us : List Value}, Paired (PrV X.K H) xs kvs → Vals xs us → ∃ more : List (Key × Value), KV kvs more ∧ Paired (fun u kv => ∃ t key, u = Value.ref t ∧ s.heap.IsTuple t #[key, kv.2] ∧ (mixKind X.prog X.w).is kv.1 key = true) us more
 := by
  intro xs kvs us hp hv
  induction hp generalizing us with
  | nil => cases hv; exact ⟨[], .nil, .nil⟩
  | @cons x kv l m r t ih => cases hv with
    | cons r' t' =>
      obtain ⟨tt, rfl, sq⟩ := r
      cases r'
      obtain ⟨its, v1, t1, _⟩ := I.tuple sq
      obtain ⟨key, v, rfl, rk, rv⟩ := vals2 v1
      obtain ⟨more, h1, h2⟩ := ih t'
      exact ⟨(kv.1, v) :: more, .cons ⟨rfl, rv⟩ h1, .cons ⟨tt, key, rfl, t1, kV_is rk⟩ h2⟩
def rDictL (K : PySem.W.Frag) : List V → Hp → VK → Prop := fun xs H Q => ∃ (p : Addr) (ys : List V) (kvs : List (Key × V)), xs = [.ref p] ∧ SqL K H p ys ∧ Paired (PrV K H) ys kvs ∧ kvs.length ≤ sizeLine ∧ ∀ l, H l = none → Q (.ref l) (upd H l (.dK (putsK kvs)))
theorem call_dictL (hc : X.calm = true) : CallR X (.type "dict") (rDictL X.K) := by
  intro pins s σ H xs us Q I r h
  obtain ⟨p, ys, kvs, rfl, hq, hp, hz, q⟩ := h
  obtain ⟨u, rfl, ru⟩ := vals1 r
  cases ru
  obtain ⟨its, rv, pl, _⟩ := I.list hq
  obtain ⟨more, kv, pr⟩ := prs_at I hp rv
  obtain ⟨o, n, e, c, hd, dt⟩ := pl
  have hl : more.length = kvs.length := (KV.length kv).symm
  refine call_dict_pairs (knd := mixKind X.prog X.w) (I.ok.hd hc) e c dt hd (by lia) pr fun h' tk dd k => ?_
  refine ⟨.ref s.heap.objs.size, _, ?_, rfl, q _ (I.hok.fresh (Nat.le_refl _))⟩
  refine I.laid (a := s.heap.objs.size) (o := .dK (putsK kvs)) (t' := tk) k (Nat.le_refl _) (dk_new ?_ (beq_eq_false_iff_ne.mpr (Ne.symm (Nat.ne_of_lt I.big))) (KV.puts kv .nil) dd)
  have z := length_puts kvs []
  unfold putsK
  simp only [List.length_nil] at z
  lia
def rDict2 (K : PySem.W.Frag) : List V → Hp → VK → Prop := fun xs H Q => rDict xs H Q ∨ rDictL K xs H Q
theorem kDict (K : PySem.W.Frag) (hc : X.calm = true) (h : X.K = K := by rfl) : CallR X (.type "dict") (rDict2 K) := by
  subst h
  intro pins s σ H xs us Q I r h
  rcases h with h | h
  · exact call_dictX pins s σ H xs us Q I r h
  · exact call_dictL hc pins s σ H xs us Q I r h
end
section
variable {K : PySem.W.Frag} {H : Hp} {Q : VK}
theorem d_dict_dic {p : Addr} {kvs : List (Key × V)} (h : Rd H p (.dK kvs)) (q : ∀ l, H l = none → Q (.ref l) (upd H l (.dK kvs))) : rDict2 K [.ref p] H Q := .inl ⟨p, kvs, rfl, h, q⟩
theorem d_dict_lst {p : Addr} {xs : List V} {kvs : List (Key × V)} (h : SqL K H p xs) (hp : Paired (PrV K H) xs kvs) (hz : kvs.length ≤ sizeLine) (q : ∀ l, H l = none → Q (.ref l) (upd H l (.dK (putsK kvs)))) : rDict2 K [.ref p] H Q := .inr ⟨p, xs, kvs, rfl, h, hp, hz, q⟩
end
end L2
set_option Elab.async false
set_option linter.all false
set_option maxRecDepth 100000
set_option maxHeartbeats 4000000
namespace L2
open PySem PySem.Spec PyProof.Rows
section
variable {X : Cx}
end
end L2
set_option Elab.async false
set_option linter.all false
set_option maxRecDepth 100000
set_option maxHeartbeats 4000000
namespace L2
open PySem PySem.Spec PyProof.Rows
structure Fly (P : Program) (w : World) (outer : List Env) (H : Hp) (s : Shared) (a C : Addr) (a0 : Value) (B : Heap) (H' : Hp) (s' : Shared) : Prop where
  fl : Heap.FlyingW B outer a (.ref C) a0 s'.heap
  os : s'.os = s.os
  bare : AllBare s'.gens
  un : Un (frs outer) [] H H' s.heap s'.heap
  hok : HOk P w H' s'.heap
  kp : ∀ b o, s.heap.get? b = some o → H b = none → b ∉ frs outer → B.get? b = some o
  th : ∀ b o, s.heap.get? b = some o → b ∉ frs outer → ∃ o', B.get? b = some o'
  tr : ∀ b o, H' b = some o → ∃ u, B.get? b = some u
  nw : H' a = none
section
variable {X : Cx} {pins : List (Addr × Obj)} {σ : St} {H : Hp} {s s' : Shared}
end
section
variable {P : Program} {w : World} {K : PySem.W.Frag} {mg : Str → Option Value} {base : Heap} {N : List Str} {qual : Str} {scope : Scope} {f : Addr} {cd : Value} {A : Around} {outer : List Env} {s0 : Shared} {H0 : Hp} {E : XK}
end
def bmV : List Value := [.type "ValueError", .type "Exception", .type "BaseException", .type "object"]
structure ExC (K : PySem.W.Frag) (mg : Str → Option Value) (x : Str) (C : Addr) : Prop where
  bound : mg x = some (.ref C)
  exc : PySem.W.excIn K C bmV "ValueError.__new__" = true
section
variable {X : Cx} {E : XK} {x : Str} {C : Addr} {np cpos pos : Pos} {e : Expr} {es : List Expr} {ta : TA}
end
end L2
set_option Elab.async false
set_option linter.all false
set_option maxRecDepth 100000
set_option maxHeartbeats 4000000
namespace L2
open PySem PySem.Spec PyProof.Rows
abbrev Cx.pinned (X : Cx) (pins : List (Addr × Obj)) : Cx := { X with pn := X.pn ++ pins }
abbrev Cx.suite (X : Cx) (e : Addr) : Cx := { X with A := X.A.mark (some (.ref e)), calm := false, xe := fun _ _ => False }
section
variable {X : Cx} {pins pins' : List (Addr × Obj)} {Es : St → XK} {σ : St} {H : Hp} {s : Shared} {e : Addr}
end
section
variable {X : Cx} {pins : List (Addr × Obj)} {Es : St → XK} {k : Nat} {ps : List Str} {dvs : List V} {sp : Sp} {x : Str} {p pos : Pos} {e : Expr} {es : List Expr} {t : TA}
end
structure ExT (K : PySem.W.Frag) (mg : Str → Option Value) (x : Str) (T : Addr) : Prop where
  bound : mg x = some (.ref T)
  ty : PySem.W.typeIn K (.ref T) = some (.type "type")
  exc : PySem.W.subIn K (.ref T) (.type "BaseException") = some true
  cls : (PySem.W.clsIn K T).isSome = true
section
variable {X : Cx} {x n : Str} {T : Addr} {np hpos pos : Pos} {i : Nat} {b₀ : Stmt} {body suite : List Stmt} {tb : (St → XK) → TS} {ts : TS}
end
end L2
set_option Elab.async false
set_option linter.all false
set_option maxRecDepth 100000
set_option maxHeartbeats 4000000
namespace L2
open PySem PySem.Spec PyProof.Rows PySem.W
section
variable {X : Cx}
end
def cA (K : Frag) (x : Str) : Addr := match nsIn K mainGlobals x with
  | some (some (.ref C)) => C
  | _ => 0
section
variable {K : Frag} {σ : St} {H : Hp} {Q : VK} {D : Ends}
end
section
variable {X : Cx}
def rNeI (K : Frag) : R2 := fun x y H Q => (∃ a xs i, x = .ref a ∧ y = .int i ∧ SqT K H a xs ∧ Q (.bl true) H) ∨ (∃ a xs i, x = .int i ∧ y = .ref a ∧ SqT K H a xs ∧ Q (.bl true) H)
theorem op_neI (hu : X.A.units + 64 < cLine) : OpR X (compareOp .NotEq) (rNeI X.K) := by
  intro pins s σ H x y v u Q I rx ry h
  rcases h with ⟨a, xs, i, rfl, rfl, ha, k⟩ | ⟨a, xs, i, rfl, rfl, ha, k⟩
  · cases rx
    obtain ⟨t, rfl⟩ := (show ∃ t, u = Value.int i t from ry)
    obtain ⟨its, r1, p1, z1⟩ := I.tuple ha
    exact SeqAt.RcNeAt.tuple_int (A := X.A) i t (show s.heap.IsTuple a its.toArray from p1) (by lia) X.prog X.w _ _ ⟨.bl true, H, I, rfl, k⟩
  · cases ry
    obtain ⟨t, rfl⟩ := (show ∃ t, v = Value.int i t from rx)
    obtain ⟨its, r1, p1, z1⟩ := I.tuple ha
    exact SeqAt.RcNeAt.int_tuple (A := X.A) i t (show s.heap.IsTuple a its.toArray from p1) (by lia) X.prog X.w _ _ ⟨.bl true, H, I, rfl, k⟩
def rNeZ (K : Frag) : R2 := fun x y H Q => rNeX K x y H Q ∨ rNeI K x y H Q
theorem kNeZ (K : Frag) {k : Nat} (hr : Room k X.A) (h : X.K = K := by rfl) : OpR X (compareOp .NotEq) (rNeZ K) := (kNe K hr h).or (h ▸ op_neI hr.units)
end
section
variable {K : Frag} {H : Hp} {Q : VK}
theorem z_ne_int {i j : Int} (q : Q (.bl (!decide (i = j))) H) : rNeZ K (.int i) (.int j) H Q := .inl (n_ne_int q)
end
end L2
set_option Elab.async false
set_option linter.all false
set_option maxRecDepth 100000
set_option maxHeartbeats 4000000
namespace L2
open PySem PySem.Spec PyProof.Rows
section
variable {X : Cx}
end
section
open PySem.Builtin PySem.Builtin.Str
end
end L2
set_option Elab.async false
set_option linter.all false
set_option maxRecDepth 100000
set_option maxHeartbeats 4000000
namespace L2
open PySem PySem.Spec PyProof.Rows
section
variable {prog : Program} {w : World} {A : Around} {E : Value → Shared → Prop}
def StrsAre : List Value → List Str → Prop := Paired fun u x => ∃ t, u = .str x t
end
section
variable {prog : Program} {w : World} {A : Around} {E : Value → Shared → Prop}
end
def IsSetN (a : Addr) (n : Nat) (h : Heap) : Prop := ∃ o es ep t, h.get? a = some o ∧ o.ExactSet ∧ o.data = .set es ep t ∧ t.fits es.size = true ∧ es.size = n
section
variable {X : Cx}
def rLenS (K : PySem.W.Frag) : List V → Hp → VK → Prop := fun xs H Q => rLen K xs H Q ∨ ∃ p n, xs = [V.ref p] ∧ H p = some (.ext (IsSetN p n)) ∧ n ≤ 1000 ∧ Q (.int n) H
theorem call_lenS : CallR X (.builtin "len") (rLenS X.K) := by
  refine call_lenX.or ?_
  intro pins s σ H xs us Q I r h
  obtain ⟨p, n, rfl, hp, hn, q⟩ := h
  obtain ⟨u, rfl, ru⟩ := vals1 r
  cases ru
  obtain ⟨o, es, ep, t, h1, h2, h3, h4, h5⟩ := (I.hok p _ hp).1
  exact call_len_set h1 h2 h3 h4 (by lia) ⟨.int n, H, I.tok _, ⟨_, by rw [h5]⟩, q⟩
end
end L2
set_option Elab.async false
set_option linter.all false
set_option maxRecDepth 100000
set_option maxHeartbeats 4000000
namespace L2
open PySem PySem.Spec PyProof.Rows
open PySem.AutoSeq1 (wpAny_loadPart')
open PySem.MeetsSeq PySem.MeetsSeq2 PySem.MeetsSeq3
theorem eqL1 : plainId "list.__eq__.loop" = true := plain_eq_loop
section
variable {P : Program} {w : World}
theorem lstLoopP (l m : Addr) (xs ys : Array Value) (n1 n2 : Nat) (d1 d2 : Option Addr) (s1 s2 : Array (Option Value)) (hz : xs.size = ys.size) (f : Nat → Bool) (md : Int) (hmd : md = 2 ∨ md = 3) : ∀ (k i : Nat), xs.size - i = k →
    MeetsIn P w (Builtin.«list.__eq__.loop» ⟨[.ref l, .ref m, rawInt i, rawInt md], []⟩) (fun A R s =>
      s.heap.get? l = some { cls := .type "list", dict := d1, data := .seq xs n1, slots := s1 } ∧ s.heap.get? m = some { cls := .type "list", dict := d2, data := .seq ys n2, slots := s2 } ∧
      (∀ j (g1 : j < xs.size) (g2 : j < ys.size), EqP P w A.in1 s xs[j] ys[j] (f j)) ∧
      R (.ok (.ret (.bool (if md = 2 then ((List.range xs.size).drop i).all f else !((List.range xs.size).drop i).all f)))) s) := by
  intro k
  induction k with
  | zero =>
    intro i hk
    intro A R s hyp
    obtain ⟨hp, gg, dr, tk, os⟩ := s
    obtain ⟨e1, e2, he, fin⟩ := hyp
    have x1 : xs[((i : Nat) : Int).toNat]? = none := by simp; lia
    have x2 : ys[((i : Nat) : Int).toNat]? = none := by simp; lia
    have x3 : (List.range xs.size).drop i = [] := by simp; lia
    rw [x3] at fin
    rcases hmd with rfl | rfl
    · wp_walk using wpAny_loadPart' e1, wpAny_loadPart' e2
      rw [x1, x2]
      wp_walk using wpAny_loadPart' e1, wpAny_loadPart' e2
      show R (.ok (.ret (.bool (xs.size == ys.size)))) _
      rw [hz]; simpa using fin
    · wp_walk using wpAny_loadPart' e1, wpAny_loadPart' e2
      rw [x1, x2]
      wp_walk using wpAny_loadPart' e1, wpAny_loadPart' e2
      show R (.ok (.ret (.bool (xs.size != ys.size)))) _
      rw [hz]; simpa using fin
  | succ k ih =>
    intro i hk
    intro A R s hyp
    have ih := ih (i + 1) (by lia)
    obtain ⟨hp, gg, dr, tk, os⟩ := s
    obtain ⟨e1, e2, he, fin⟩ := hyp
    have l1 : i < xs.size := by lia
    have l2 : i < ys.size := by lia
    have x1 : xs[((i : Nat) : Int).toNat]? = some xs[i] := by simp [l1]
    have x2 : ys[((i : Nat) : Int).toNat]? = some ys[i] := by simp [l2]
    have x3 : (List.range xs.size).drop i = i :: (List.range xs.size).drop (i + 1) := by simp [List.drop_eq_getElem_cons, l1]
    have x4 : ((i : Int) + 1) = ((i + 1 : Nat) : Int) := by push_cast; rfl
    rw [x3, List.all_cons] at fin
    rcases hmd with rfl | rfl
    · wp_walk using wpAny_loadPart' e1, wpAny_loadPart' e2
      rw [x1, x2]
      refine wpAny_bind (he i l1 l2 _ _ ?_)
      cases hf : f i with
      | true =>
        rw [hf] at fin
        wp_walk
        rw [x4]
        refine ⟨plainId_quiet eqL1 _, codeAny_builtin entry_eq_loop ?_⟩
        rw [Around.under_plainId eqL1 _]
        exact ih A R _ ⟨e1, e2, he, by simpa using fin⟩
      | false =>
        rw [hf] at fin
        wp_walk using wpAny_loadPart' e1, wpAny_loadPart' e2
        rw [x1, x2]
        wp_walk
        simpa using fin
    · wp_walk using wpAny_loadPart' e1, wpAny_loadPart' e2
      rw [x1, x2]
      refine wpAny_bind (he i l1 l2 _ _ ?_)
      cases hf : f i with
      | true =>
        rw [hf] at fin
        wp_walk
        rw [x4]
        refine ⟨plainId_quiet eqL1 _, codeAny_builtin entry_eq_loop ?_⟩
        rw [Around.under_plainId eqL1 _]
        exact ih A R _ ⟨e1, e2, he, by simpa using fin⟩
      | false =>
        rw [hf] at fin
        wp_walk using wpAny_loadPart' e1, wpAny_loadPart' e2
        rw [x1, x2]
        wp_walk
        simpa using fin
theorem lstEqP (l m : Addr) (xs ys : Array Value) (n1 n2 : Nat) (d1 d2 : Option Addr) (s1 s2 : Array (Option Value)) (hz : xs.size = ys.size) (f : Nat → Bool) :
    MeetsIn P w (Builtin.«list.__eq__» ⟨[.ref l, .ref m], []⟩) (fun A R s =>
      s.heap.get? l = some { cls := .type "list", dict := d1, data := .seq xs n1, slots := s1 } ∧ s.heap.get? m = some { cls := .type "list", dict := d2, data := .seq ys n2, slots := s2 } ∧
      (∀ j (g1 : j < xs.size) (g2 : j < ys.size), EqP P w A.in1 s xs[j] ys[j] (f j)) ∧ R (.ok (.ret (.bool ((List.range xs.size).all f)))) s) := by
  intro A R s hyp
  obtain ⟨hp, gg, dr, tk, os⟩ := s
  obtain ⟨e1, e2, he, fin⟩ := hyp
  have q1 := AutoSeq1.sub_list_list; have q2 : ¬ (xs.size != ys.size) = true := by simp [hz]
  wp_walk using wpAny_loadPart' e1, wpAny_loadPart' e2
  refine ⟨plainId_quiet eqL1 _, codeAny_builtin entry_eq_loop ?_⟩
  rw [Around.under_plainId eqL1 _]
  exact lstLoopP l m xs ys n1 n2 d1 d2 s1 s2 hz f 2 (.inl rfl) _ 0 rfl A R _ ⟨e1, e2, he, by simpa using fin⟩
theorem lstNeP (l m : Addr) (xs ys : Array Value) (n1 n2 : Nat) (d1 d2 : Option Addr) (s1 s2 : Array (Option Value)) (hz : xs.size = ys.size) (f : Nat → Bool) :
    MeetsIn P w (Builtin.«list.__ne__» ⟨[.ref l, .ref m], []⟩) (fun A R s =>
      s.heap.get? l = some { cls := .type "list", dict := d1, data := .seq xs n1, slots := s1 } ∧ s.heap.get? m = some { cls := .type "list", dict := d2, data := .seq ys n2, slots := s2 } ∧
      (∀ j (g1 : j < xs.size) (g2 : j < ys.size), EqP P w A.in1 s xs[j] ys[j] (f j)) ∧ R (.ok (.ret (.bool (!(List.range xs.size).all f)))) s) := by
  intro A R s hyp
  obtain ⟨hp, gg, dr, tk, os⟩ := s
  obtain ⟨e1, e2, he, fin⟩ := hyp
  have q1 := AutoSeq1.sub_list_list; have q2 : ¬ (xs.size != ys.size) = true := by simp [hz]
  wp_walk using wpAny_loadPart' e1, wpAny_loadPart' e2
  refine ⟨plainId_quiet eqL1 _, codeAny_builtin entry_eq_loop ?_⟩
  rw [Around.under_plainId eqL1 _]
  exact lstLoopP l m xs ys n1 n2 d1 d2 s1 s2 hz f 3 (.inr rfl) _ 0 rfl A R _ ⟨e1, e2, he, by simpa using fin⟩
theorem RcP.lst {A : Around} {s : Shared} {l m : Addr} {xs ys : Array Value} {f : Nat → Bool} (hl : s.heap.IsList l xs) (hm : s.heap.IsList m ys) (hz : xs.size = ys.size) (hu : A.units < cLine)
    (he : ∀ j (g1 : j < xs.size) (g2 : j < ys.size), EqP P w A.in1 s xs[j] ys[j] (f j)) : RcP P w A s (.ref l) (.ref m) ((List.range xs.size).all f) := fun E Q q => by
  obtain ⟨⟨c1, d1, a1, s1⟩, o1, k1, n1, t1⟩ := id hl
  obtain ⟨⟨c2, d2, a2, s2⟩, o2, k2, n2, t2⟩ := id hm
  simp only at k1 t1 k2 t2
  subst k1 t1 k2 t2
  refine wpAny_richCompare_same_room (op := .Eq) ⟨_, o1, rfl⟩ ⟨_, o2, rfl⟩ PySem.F.slot_list_eq (call_meetsIn PySem.F.slot_list_eq ⟨_, o1, rfl⟩ PySem.F.entry_list_eq (PySem.F.args_list_eq_2 _ _) (lstEqP l m xs ys n1 n2 d1 d2 s1 s2 hz f) ⟨o1, o2, he, ?_⟩) hu
  exact ⟨(fun z => nomatch z), q⟩
theorem NcP.lst {A : Around} {s : Shared} {l m : Addr} {xs ys : Array Value} {f : Nat → Bool} (hl : s.heap.IsList l xs) (hm : s.heap.IsList m ys) (hz : xs.size = ys.size) (hu : A.units < cLine)
    (he : ∀ j (g1 : j < xs.size) (g2 : j < ys.size), EqP P w A.in1 s xs[j] ys[j] (f j)) : NcP P w A s (.ref l) (.ref m) (!(List.range xs.size).all f) := fun E Q q => by
  obtain ⟨⟨c1, d1, a1, s1⟩, o1, k1, n1, t1⟩ := id hl
  obtain ⟨⟨c2, d2, a2, s2⟩, o2, k2, n2, t2⟩ := id hm
  simp only at k1 t1 k2 t2
  subst k1 t1 k2 t2
  refine wpAny_richCompare_same_room (op := .NotEq) ⟨_, o1, rfl⟩ ⟨_, o2, rfl⟩ PySem.F.slot_list_ne (call_meetsIn PySem.F.slot_list_ne ⟨_, o1, rfl⟩ PySem.F.entry_list_ne (PySem.F.args_list_ne_2 _ _) (lstNeP l m xs ys n1 n2 d1 d2 s1 s2 hz f) ⟨o1, o2, he, ?_⟩) hu
  exact ⟨(fun z => nomatch z), q⟩
end
def EqN (K : PySem.W.Frag) (H : Hp) : Nat → V → V → Bool → Prop
  | 0, x, y, b => Eq1 K H x y b ∨ ∃ a c, x = .ref a ∧ y = .ref c ∧ EqD K H a c b
  | n + 1, x, y, b => EqN K H n x y b ∨ ∃ (a c : Addr) (xs ys : List V) (bs : List Bool), x = .ref a ∧ y = .ref c ∧ a ≠ c ∧ ((SqT K H a xs ∧ SqT K H c ys) ∨ (SqL K H a xs ∧ SqL K H c ys)) ∧ xs.length = ys.length ∧ bs.length = xs.length ∧
      (∀ (j : Nat) (x' y' : V) (b' : Bool), xs[j]? = some x' → ys[j]? = some y' → bs[j]? = some b' → EqN K H n x' y' b') ∧ b = bs.all id
theorem all_range_bs : ∀ (bs : List Bool), (List.range bs.length).all (fun j => bs.getD j true) = bs.all id
  | [] => rfl
  | b :: r => by
    rw [List.length_cons, List.range_succ_eq_map, List.all_cons, List.all_map]
    show (b && (List.range r.length).all fun j => r.getD j true) = (b && r.all id)
    rw [all_range_bs r]
section
variable {X : Cx} {pins : List (Addr × Obj)} {σ : St} {H : Hp} {s : Shared}
theorem els_at {n : Nat} {xs ys : List V} {bs : List Bool} {us vs : List Value} {A : Around} (r1 : Vals xs us) (r2 : Vals ys vs) (hl : xs.length = ys.length) (hb : bs.length = xs.length)
    (he : ∀ (j : Nat) (x' y' : V) (b' : Bool), xs[j]? = some x' → ys[j]? = some y' → bs[j]? = some b' → EqN X.K H n x' y' b')
    (at_ : ∀ {x y : V} {u v : Value} {b : Bool}, EqN X.K H n x y b → RelV x u → RelV y v → EqP X.prog X.w A.in1 s u v b) :
    ∀ j (g1 : j < us.toArray.size) (g2 : j < vs.toArray.size), EqP X.prog X.w A.in1 s us.toArray[j] vs.toArray[j] (bs.getD j true) := fun j g1 g2 => by
  have l1 := r1.length
  have l2 := r2.length
  have g1' : j < us.length := by simpa using g1
  have g2' : j < vs.length := by simpa using g2
  have x1 : xs[j]? = some (xs[j]'(by lia)) := List.getElem?_eq_getElem _
  have y1 : ys[j]? = some (ys[j]'(by lia)) := List.getElem?_eq_getElem _
  have b1 : bs[j]? = some (bs[j]'(by lia)) := List.getElem?_eq_getElem _
  obtain ⟨u1, hu1, ru1⟩ := r1.get x1
  obtain ⟨u2, hu2, ru2⟩ := r2.get y1
  have e1 : us.toArray[j] = u1 := by
    have := List.getElem?_eq_getElem g1'
    rw [hu1] at this
    simpa using (Option.some.inj this).symm
  have e2 : vs.toArray[j] = u2 := by
    have := List.getElem?_eq_getElem g2'
    rw [hu2] at this
    simpa using (Option.some.inj this).symm
  rw [e1, e2, List.getD_eq_getElem?_getD, b1]
  exact at_ (he j _ _ _ x1 y1 b1) ru1 ru2
theorem EqN.at_ (I : Inv X pins σ H s) : ∀ {n : Nat} {A : Around} {x y : V} {u v : Value} {b : Bool}, EqN X.K H n x y b → RelV x u → RelV y v → A.units + 32 + n < cLine → EqP X.prog X.w A s u v b := by
  intro n
  induction n with
  | zero =>
    intro A x y u v b h rx ry hu
    rcases h with h | ⟨a, c, rfl, rfl, h⟩
    · exact .of (h.at_ I rx ry (by lia))
    · cases rx
      cases ry
      exact h.at_ I (by lia)
  | succ n ih =>
    intro A x y u v b h rx ry hu
    rcases h with h | ⟨a, c, xs, ys, bs, rfl, rfl, hne, hh, hl, hb, he, rfl⟩
    · exact ih h rx ry (by lia)
    · cases rx
      cases ry
      have hin : A.in1.units = A.units + 1 := rfl
      rcases hh with ⟨h1, h2⟩ | ⟨h1, h2⟩
      · obtain ⟨us, r1, p1, z1⟩ := I.tuple h1
        obtain ⟨vs, r2, p2, z2⟩ := I.tuple h2
        have l1 := r1.length
        have l2 := r2.length
        have q := RcP.tup (P := X.prog) (w := X.w) (A := A) (f := fun j => bs.getD j true) (show s.heap.IsTuple a us.toArray from p1) (show s.heap.IsTuple c vs.toArray from p2) (by lia) (els_at r1 r2 hl hb he fun z q1 q2 => ih z q1 q2 (by lia))
        have e3 : min us.toArray.size vs.toArray.size = bs.length := by simp; lia
        have e4 : (us.toArray.size == vs.toArray.size) = true := by simp; lia
        rw [e3, e4, all_range_bs, Bool.and_true] at q
        exact .refs hne q
      · obtain ⟨us, r1, p1, z1⟩ := I.list h1
        obtain ⟨vs, r2, p2, z2⟩ := I.list h2
        have l1 := r1.length
        have l2 := r2.length
        have q := RcP.lst (P := X.prog) (w := X.w) (A := A) (f := fun j => bs.getD j true) p1.isList p2.isList (by simp; lia) (by lia) (els_at r1 r2 hl hb he fun z q1 q2 => ih z q1 q2 (by lia))
        have e3 : us.toArray.size = bs.length := by simp; lia
        rw [e3, all_range_bs] at q
        exact .refs hne q
end
def SqN (K : PySem.W.Frag) (H : Hp) (x y : V) (bs : List Bool) : Prop := ∃ (a c : Addr) (xs ys : List V), x = .ref a ∧ y = .ref c ∧ ((SqT K H a xs ∧ SqT K H c ys) ∨ (SqL K H a xs ∧ SqL K H c ys)) ∧ xs.length = ys.length ∧ bs.length = xs.length ∧
  ∀ (j : Nat) (x' y' : V) (b' : Bool), xs[j]? = some x' → ys[j]? = some y' → bs[j]? = some b' → EqN K H 8 x' y' b'
section
variable {X : Cx}
def rEqN (K : PySem.W.Frag) : R2 := fun x y H Q => ∃ bs, SqN K H x y bs ∧ Q (.bl (bs.all id)) H
def rNeN (K : PySem.W.Frag) : R2 := fun x y H Q => ∃ bs, SqN K H x y bs ∧ Q (.bl (!bs.all id)) H
theorem op_eqN (hu : X.A.units + 64 < cLine) : OpR X (compareOp .Eq) (rEqN X.K) := by
  intro pins s σ H x y v u Q I rx ry h
  obtain ⟨bs, ⟨a, c, xs, ys, rfl, rfl, hh, hl, hb, he⟩, k⟩ := h
  cases rx
  cases ry
  have hin : X.A.in1.units = X.A.units + 1 := rfl
  rcases hh with ⟨h1, h2⟩ | ⟨h1, h2⟩
  · obtain ⟨us, r1, p1, z1⟩ := I.tuple h1
    obtain ⟨vs, r2, p2, z2⟩ := I.tuple h2
    have l1 := r1.length
    have l2 := r2.length
    have q := RcP.tup (P := X.prog) (w := X.w) (A := X.A) (f := fun j => bs.getD j true) (show s.heap.IsTuple a us.toArray from p1) (show s.heap.IsTuple c vs.toArray from p2) (by lia) (els_at r1 r2 hl hb he fun z q1 q2 => EqN.at_ I z q1 q2 (by lia))
    have e3 : min us.toArray.size vs.toArray.size = bs.length := by simp; lia
    have e4 : (us.toArray.size == vs.toArray.size) = true := by simp; lia
    rw [e3, e4, all_range_bs, Bool.and_true] at q
    exact q _ _ ⟨.bl _, H, I, rfl, k⟩
  · obtain ⟨us, r1, p1, z1⟩ := I.list h1
    obtain ⟨vs, r2, p2, z2⟩ := I.list h2
    have l1 := r1.length
    have l2 := r2.length
    have q := RcP.lst (P := X.prog) (w := X.w) (A := X.A) (f := fun j => bs.getD j true) p1.isList p2.isList (by simp; lia) (by lia) (els_at r1 r2 hl hb he fun z q1 q2 => EqN.at_ I z q1 q2 (by lia))
    have e3 : us.toArray.size = bs.length := by simp; lia
    rw [e3, all_range_bs] at q
    exact q _ _ ⟨.bl _, H, I, rfl, k⟩
theorem op_neN (hu : X.A.units + 64 < cLine) : OpR X (compareOp .NotEq) (rNeN X.K) := by
  intro pins s σ H x y v u Q I rx ry h
  obtain ⟨bs, ⟨a, c, xs, ys, rfl, rfl, hh, hl, hb, he⟩, k⟩ := h
  cases rx
  cases ry
  have hin : X.A.in1.units = X.A.units + 1 := rfl
  rcases hh with ⟨h1, h2⟩ | ⟨h1, h2⟩
  · obtain ⟨us, r1, p1, z1⟩ := I.tuple h1
    obtain ⟨vs, r2, p2, z2⟩ := I.tuple h2
    have l1 := r1.length
    have l2 := r2.length
    have q := NcP.tup (P := X.prog) (w := X.w) (A := X.A) (f := fun j => bs.getD j true) (show s.heap.IsTuple a us.toArray from p1) (show s.heap.IsTuple c vs.toArray from p2) (by lia) (els_at r1 r2 hl hb he fun z q1 q2 => EqN.at_ I z q1 q2 (by lia))
    have e3 : min us.toArray.size vs.toArray.size = bs.length := by simp; lia
    have e4 : (us.toArray.size == vs.toArray.size) = true := by simp; lia
    rw [e3, e4, all_range_bs, Bool.and_true] at q
    exact q _ _ ⟨.bl _, H, I, rfl, k⟩
  · obtain ⟨us, r1, p1, z1⟩ := I.list h1
    obtain ⟨vs, r2, p2, z2⟩ := I.list h2
    have l1 := r1.length
    have l2 := r2.length
    have q := NcP.lst (P := X.prog) (w := X.w) (A := X.A) (f := fun j => bs.getD j true) p1.isList p2.isList (by simp; lia) (by lia) (els_at r1 r2 hl hb he fun z q1 q2 => EqN.at_ I z q1 q2 (by lia))
    have e3 : us.toArray.size = bs.length := by simp; lia
    rw [e3, all_range_bs] at q
    exact q _ _ ⟨.bl _, H, I, rfl, k⟩
def rNeW8 (K : PySem.W.Frag) : R2 := fun x y H Q => rNeZ K x y H Q ∨ rNeN K x y H Q
theorem kNeW8 (K : PySem.W.Frag) {k : Nat} (hr : Room k X.A) (h : X.K = K := by rfl) : OpR X (compareOp .NotEq) (rNeW8 K) := (kNeZ K hr h).or (h ▸ op_neN hr.units)
def rEqW8 (K : PySem.W.Frag) : R2 := fun x y H Q => rEqY K x y H Q ∨ rEqN K x y H Q
theorem kEqW8 (K : PySem.W.Frag) {k : Nat} (hr : Room k X.A) (h : X.K = K := by rfl) : OpR X (compareOp .Eq) (rEqW8 K) := (kEqY K hr h).or (h ▸ op_eqN hr.units)
end
end L2
set_option Elab.async false
set_option linter.all false
set_option maxRecDepth 100000
set_option maxHeartbeats 4000000
namespace L2
open PySem PySem.Spec PyProof.Rows
def IsVV (v d : Addr) (h : Heap) : Prop := h.IsValuesView v d
theorem isVV_ok {P : Program} {w : World} {H : Hp} {h : Heap} {v d : Addr} (x : IsVV v d h) : ObjOk P w H h v (.ext (IsVV v d)) := by
  obtain ⟨o, e, r⟩ := x
  exact ⟨⟨o, e, r⟩, ⟨o, e⟩, fun h1 h2 ⟨o', e', r'⟩ k => ⟨o', k _ e', r'⟩⟩
section
variable {X : Cx}
def rValues : V → List V → Hp → VK → Prop := fun x vs H Q => ∃ d kvs, x = .ref d ∧ vs = [] ∧ Rd H d (.dK kvs) ∧ ∀ v, H v = none → Q (.ref v) (upd H v (.ext (IsVV v d)))
theorem mt_dict_values0 : MtR X "dict.values" rValues := by
  intro pins s σ H x vs v us Q I rx rv h
  obtain ⟨d, kvs, rfl, rfl, hd, q⟩ := h
  cases rx
  have hus := rv.zero
  subst hus
  obtain ⟨z, hs, ws, rel, dd⟩ := dk_rd I.hok hd
  refine call_meetsIn PySem.F.slot_dict_values dd.typeIs PySem.F.entry_dict_values (PySem.F.args_dict_values_1 _) (meets_dict_values (mixKind X.prog X.w) d hs) ⟨⟨ws, dd⟩, ?_⟩
  refine ⟨.ref s.heap.objs.size, _, ?_, rfl, q _ (I.hok.fresh (Nat.le_refl _))⟩
  exact I.laid (a := s.heap.objs.size) (t' := s.toks) (fun b u e => Heap.get?_push_of_some _ e) (Nat.le_refl _) (isVV_ok ⟨_, Heap.get?_push_size _ rfl, rfl, rfl⟩)
def rListV (K : PySem.W.Frag) : List V → Hp → VK → Prop := fun xs H Q => rList K xs H Q ∨ ∃ (v d : Addr) (kvs : List (Key × V)), xs = [.ref v] ∧ H v = some (.ext (IsVV v d)) ∧ Rd H d (.dK kvs) ∧ ∀ l, H l = none → Q (.ref l) (upd H l (.lst (kvs.map (·.2))))
theorem call_listV (hc : X.calm = true) : CallR X (.type "list") (rListV X.K) := by
  refine (call_listX hc).or ?_
  intro pins s σ H xs us Q I r h
  obtain ⟨v, d, kvs, rfl, hv, hx, q⟩ := h
  obtain ⟨u, rfl, ru⟩ := vals1 r
  cases ru
  have hvv : IsVV v d s.heap := (I.hok v _ hv).1
  obtain ⟨hd, o, vs, ep, ho, D⟩ := dobj_of I.hok hx
  have hlv := KV.length D.kv
  have hz : kvs.length ≤ sizeLine := (dk_rd I.hok hx).1
  refine PySem.W.kdl_call (PySem.W.kdl_values (knd := mixKind X.prog X.w) (kvs := vs) (ep := ep)) (I.ok.hd hc) ⟨hvv, D.at_ _ ho⟩ (by lia) fun h' tk acc c hkp hS hacc => ?_
  refine ⟨.ref s.heap.objs.size, _, I.newL (tk := tk) hkp (Nat.le_refl _) hS (vals_of_get (by have := hacc.1; simp; lia) fun i x u e1 e2 => ?_) (by rw [List.length_map]; exact hz), rfl, q _ (I.hok.fresh (Nat.le_refl _))⟩
  obtain ⟨k, hy⟩ := hacc.2 i u (by rw [← Array.getElem?_toList]; exact e2)
  rw [List.getElem?_map] at e1
  obtain ⟨kv, e4, rfl⟩ := Option.map_eq_some_iff.mp e1
  obtain ⟨q1, hq1, q2, q3⟩ := paired_get (show Paired _ kvs vs from D.kv) e4
  rw [hy] at hq1
  cases hq1
  exact q3
theorem kListV (K : PySem.W.Frag) (hc : X.calm = true) (h : X.K = K := by rfl) : CallR X (.type "list") (rListV K) := h ▸ call_listV hc
end
section
variable {K : PySem.W.Frag} {H : Hp} {Q : VK}
theorem v_list {xs : List V} (h : rList K xs H Q) : rListV K xs H Q := .inl h
theorem v_list_vals {v d : Addr} {kvs : List (Key × V)} (hv : H v = some (.ext (IsVV v d))) (hd : Rd H d (.dK kvs)) (q : ∀ l, H l = none → Q (.ref l) (upd H l (.lst (kvs.map (·.2))))) : rListV K [.ref v] H Q := .inr ⟨v, d, kvs, rfl, hv, hd, q⟩
end
section
variable {prog : Program} {w : World} {A : Around} {E : Value → Shared → Prop}
end
section
variable {X : Cx}
end
end L2
set_option Elab.async false
set_option linter.all false
set_option maxRecDepth 100000
set_option maxHeartbeats 4000000
namespace L2
open PySem PySem.Spec PyProof.Rows
section
variable {prog : Program} {w : World} {A : Around} {E : Value → Shared → Prop} {s : Shared}
theorem hash_none {Q : Int → Shared → Prop} (h : Q 0xFCA86420 { s with toks := s.toks + 1 }) : wpAny (model prog w) A (pyHash .none) Q E s := by
  have hT : s.TypeIs Value.none "NoneType" := rfl
  unfold pyHash pyHashByItsType
  refine wpAny_bind ?_
  rw [cRoomFor, if_neg (show ¬ ([Value.none].any Value.onHeap) = true by decide)]
  refine wpAny_pure (wpAny_bind (wpAny_specialOf hT PySem.F.slot_NoneType_hash.lookup ?_))
  refine (show wpAny _ _ (if (some (Value.builtin "NoneType.__hash__") == some Value.none) = true then _ else _) Q E s from ?_)
  rw [if_neg (by decide)]
  refine wpAny_bind (wpAny_specialOf hT PySem.F.slot_NoneType_hash.lookup ?_)
  refine (show wpAny _ _ (callSpecialIfBoundUnlessNone? Value.none "__hash__" _ >>= _) Q E s from ?_)
  refine wpAny_bind (wpAny_callSpecialIfBoundUnlessNone?_slot hT PySem.F.slot_NoneType_hash (wpAny_call_entry PySem.F.slot_NoneType_hash hT PySem.F.entry_NoneType_hash (show wpAny _ _ (do ret (← mkInt 0xFCA86420)) _ _ s from wpAny_ret_mkInt ?_) (PySem.F.args_NoneType_hash_1 _)))
  refine (show wpAny _ _ (if (decide (-(2 : Int) ^ 63 ≤ 0xFCA86420) && decide ((0xFCA86420 : Int) < 2 ^ 63)) = true then _ else _) Q E _ from ?_)
  rw [if_pos (by decide)]
  exact wpAny_pure h
end
abbrev WKey := Option Key
def wIs : WKey → Value → Bool
  | none, .none => true
  | none, _ => false
  | some k, v => keyIs k v
theorem wIs_shape : ∀ {k : WKey} {v : Value}, wIs k v = true → (k = none ∧ v = Value.none) ∨ (∃ i t, k = some (Sum.inl i) ∧ v = Value.int i t) ∨ (∃ x t, k = some (Sum.inr x) ∧ v = Value.str x t)
  | none, v, h => by cases v <;> first | exact .inl ⟨rfl, rfl⟩ | cases h
  | some k, v, h => by
    rcases keyIs_shape (show keyIs k v = true from h) with ⟨i, t, rfl, rfl⟩ | ⟨x, t, rfl, rfl⟩
    · exact .inr (.inl ⟨i, t, rfl, rfl⟩)
    · exact .inr (.inr ⟨x, t, rfl, rfl⟩)
def wHash (w : World) : WKey → Int
  | none => 0xFCA86420
  | some k => keyH w k
def wideKind (prog : Program) (w : World) : PySem.KeyKind prog w WKey where
  is := wIs
  hash := wHash w
  inj := fun v a b ha hb => by
    rcases wIs_shape ha with ⟨rfl, rfl⟩ | ⟨i, t, rfl, rfl⟩ | ⟨x, t, rfl, rfl⟩ <;> rcases wIs_shape hb with ⟨rfl, e⟩ | ⟨j, u, rfl, e⟩ | ⟨y, u, rfl, e⟩ <;> first | rfl | (cases e <;> rfl)
  byValue := fun k v h => by
    rcases wIs_shape h with ⟨rfl, rfl⟩ | ⟨i, t, rfl, rfl⟩ | ⟨x, t, rfl, rfl⟩ <;> rfl
  pyHash := fun hv h => by
    rcases wIs_shape hv with ⟨rfl, rfl⟩ | ⟨i, t, rfl, rfl⟩ | ⟨x, t, rfl, rfl⟩
    · exact hash_none h
    · exact wpAny_pyHash_int h
    · exact wpAny_pyHash_str h
  eqBool := fun {A E s a b u v Q} hu hv h => by
    have dk : ∀ {k k' : Key}, decide ((some k : WKey) = some k') = decide (k = k') := fun {k k'} => by
      by_cases e : k = k'
      · subst e; simp
      · rw [decide_eq_false e, decide_eq_false fun z => e (Option.some.inj z)]
    rcases wIs_shape hu with ⟨rfl, rfl⟩ | ⟨i, t, rfl, rfl⟩ | ⟨x, t, rfl, rfl⟩ <;> rcases wIs_shape hv with ⟨rfl, rfl⟩ | ⟨j, t', rfl, rfl⟩ | ⟨y, t', rfl, rfl⟩
    · exact SeqAt.EqAt.same _ _ _ _ _ (by simpa using h)
    · exact SeqAt.EqAt.none_int j t' _ _ _ _ (by simpa using h)
    · exact SeqAt.EqAt.none_str y t' _ _ _ _ (by simpa using h)
    · exact SeqAt.EqAt.int_none i t _ _ _ _ (by simpa using h)
    · rw [dk, key_ll] at h; exact wpAny_eqBool_int h
    · rw [dk, key_lr] at h; exact SeqAt.EqAt.int_str i t y t' _ _ _ _ h
    · exact SeqAt.EqAt.str_none x t _ _ _ _ (by simpa using h)
    · rw [dk, key_rl] at h; exact SeqAt.EqAt.str_int x t j t' _ _ _ _ h
    · rw [dk, key_rr] at h; exact wpAny_eqBool_str h
  «strs» := fun k x t v h => by
    rcases wIs_shape h with ⟨rfl, e⟩ | ⟨i, u, rfl, e⟩ | ⟨y, u, rfl, e⟩
    · exact nomatch e
    · exact nomatch e
    · injection e with e1 _
      subst e1
      cases v <;> rfl
def IsDictN (P : Program) (w : World) (a : Addr) (n : Nat) (h : Heap) : Prop := (a == sysModules) = false ∧ ∃ vs, h.DictOf (wideKind P w) a vs ∧ vs.length = n
theorem isDictN_ok {P P' : Program} {w w' : World} {H : Hp} {h : Heap} {a : Addr} {n : Nat} (x : IsDictN P w a n h) : ObjOk P' w' H h a (.ext (IsDictN P w a n)) := by
  obtain ⟨hs, vs, ⟨o, es, ep, e, r⟩, hl⟩ := x
  exact ⟨⟨hs, vs, ⟨o, es, ep, e, r⟩, hl⟩, ⟨o, e⟩, fun h1 h2 ⟨hs', vs', ⟨o', es', ep', e', r'⟩, hl'⟩ k => ⟨hs', vs', ⟨o', es', ep', k _ e', r'⟩, hl'⟩⟩
theorem pairs_wide {P : Program} {w : World} : ∀ {es : List DictEntry} {vs : List (Key × Value)}, Pairs (mixKind P w) es vs → Pairs (wideKind P w) es (vs.map fun x => (some x.1, x.2))
  | _, _, .nil => .nil
  | _, _, .cons h e t => .cons h e (pairs_wide t)
theorem wide_of {P : Program} {w : World} {h : Heap} {a : Addr} {vs : List (Key × Value)} (dd : h.DictOf (mixKind P w) a vs) : h.DictOf (wideKind P w) a (vs.map fun x => (some x.1, x.2)) := by
  obtain ⟨o, es, ep, h1, h2, h3, h4, h5, h6⟩ := dd
  refine ⟨o, es, ep, h1, h2, h3, fun e he => ?_, pairs_wide h5, ?_⟩
  · obtain ⟨k, q1, q2⟩ := h4 e he
    exact ⟨some k, q1, q2⟩
  · rw [List.map_map]
    have e : ((fun x : WKey × Value => x.1) ∘ fun x : Key × Value => ((some x.1 : WKey), x.2)) = (fun k : Key => (some k : WKey)) ∘ fun x : Key × Value => x.1 := rfl
    rw [e, ← List.map_map]
    exact List.Pairwise.map _ (fun a b h z => h (Option.some.inj z)) h6
theorem stored_new {vs : List (Key × Value)} {v : Value} : stored (vs.map fun x => ((some x.1 : WKey), x.2)) none v = (vs.map fun x => ((some x.1 : WKey), x.2)) ++ [(none, v)] := by
  unfold stored
  rw [if_neg]
  intro z
  obtain ⟨x, hx, e⟩ := List.any_eq_true.mp z
  obtain ⟨y, _, rfl⟩ := List.mem_map.mp hx
  cases of_decide_eq_true e
section
variable {X : Cx}
def rSetW (P : Program) (w : World) : TSet := fun o i v H Q => rSetX o i v H Q ∨ ∃ a kvs, o = .ref a ∧ i = .non ∧ H a = some (.dK kvs) ∧ kvs.length < 1000 ∧ Q (upd H a (.ext (IsDictN P w a (kvs.length + 1))))
theorem set_wide (hu : X.A.units + 1 < cLine) : PSet X (rSetW X.prog X.w) := by
  intro pins s σ H o i v ov iv u Q I ro ri rv h
  rcases h with h | ⟨a, kvs, rfl, rfl, hA, hl, q⟩
  · exact set_any hu pins s σ H o i v ov iv u Q I ro ri rv h
  · cases ro
    cases ri
    obtain ⟨z, hd, vs, rel, dd⟩ := dk_of I.hok hA
    have hlv := rel.length
    refine wpAny_setItem_pairs (knd := wideKind X.prog X.w) (k := none) (hsz := by rw [List.length_map]; lia) rfl (wide_of dd) fun h' dd' hs => ?_
    rw [stored_new] at dd'
    have he : ∃ q, h'.get? a = some q := let ⟨q, _, _, hq, _⟩ := dd'; ⟨q, hq⟩
    exact ⟨_, d_write I (by rw [hA]; exact True.intro) hs he (isDictN_ok ⟨hd, _, dd', by rw [List.length_append, List.length_map, hlv]; rfl⟩), q⟩
def rLenN (K : PySem.W.Frag) (P : Program) (w : World) : List V → Hp → VK → Prop := fun xs H Q => rLenS K xs H Q ∨ ∃ p n, xs = [V.ref p] ∧ H p = some (.ext (IsDictN P w p n)) ∧ n ≤ 1000 ∧ Q (.int n) H
theorem call_lenN : CallR X (.builtin "len") (rLenN X.K X.prog X.w) := by
  refine call_lenS.or ?_
  intro pins s σ H xs us Q I r h
  obtain ⟨p, n, rfl, hp, hn, q⟩ := h
  obtain ⟨u, rfl, ru⟩ := vals1 r
  cases ru
  obtain ⟨hs, vs, dd, hl⟩ := (I.hok p _ hp).1
  refine call_len_dict hs dd (by lia) ?_
  rw [hl]
  exact ⟨.int n, H, I.tok _, ⟨_, rfl⟩, q⟩
theorem kLenN (K : PySem.W.Frag) (h : X.K = K := by rfl) : CallR X (.builtin "len") (rLenN K X.prog X.w) := h ▸ call_lenN
def rIsiN (K : PySem.W.Frag) (P : Program) (w : World) : List V → Hp → VK → Prop := fun xs H Q => rIsi K xs H Q ∨ ∃ p n T, xs = [V.ref p, .ty T] ∧ H p = some (.ext (IsDictN P w p n)) ∧ (T = "str" ∨ T = "int" ∨ T = "bool" ∨ T = "list" ∨ T = "tuple" ∨ T = "dict") ∧ Q (.bl (isiB "dict" T)) H
theorem call_isiN : CallR X (.builtin "isinstance") (rIsiN X.K X.prog X.w) := by
  refine call_isi.or ?_
  intro pins s σ H xs us Q I r h
  obtain ⟨p, n, T, rfl, hp, hT, q⟩ := h
  obtain ⟨u, c, rfl, rx, rc⟩ := vals2 r
  cases rx
  cases rc
  obtain ⟨hs, vs, ⟨o, es, ep, h1, h2, r⟩, hl⟩ := (I.hok p _ hp).1
  exact PySem.W.kia_one PySem.W.kitx_dict I.kIn ⟨o, h1, h2.1⟩ (kit_isi (by simp) hT) (fun z => nomatch z) fun tk => ⟨.bl _, H, I.tok tk, rfl, q⟩
theorem kIsiN (K : PySem.W.Frag) (h : X.K = K := by rfl) : CallR X (.builtin "isinstance") (rIsiN K X.prog X.w) := h ▸ call_isiN
end
section
variable {K : PySem.W.Frag} {P : Program} {w : World} {H : Hp} {Q : VK}
theorem l_len {xs : List V} (h : rLen K xs H Q) : rLenN K P w xs H Q := .inl (.inl h)
theorem l_isi {xs : List V} (h : rIsi K xs H Q) : rIsiN K P w xs H Q := .inl h
theorem s_set {o i v : V} {Qh : Hp → Prop} (h : rSetX o i v H Qh) : rSetW P w o i v H Qh := .inl h
theorem w_eq {x y : V} (h : rEqX K x y H Q) : rEqW8 K x y H Q := .inl (y_eq h)
theorem w_eq_int {i j : Int} (q : Q (.bl (decide (i = j))) H) : rEqW8 K (.int i) (.int j) H Q := w_eq (q_eq_int q)
theorem w_eq_str {i j : Str} (q : Q (.bl (decide (i = j))) H) : rEqW8 K (.str i) (.str j) H Q := w_eq (q_eq_str q)
theorem w_ne_int {i j : Int} (q : Q (.bl (!decide (i = j))) H) : rNeW8 K (.int i) (.int j) H Q := .inl (z_ne_int q)
end
theorem kIsiP {X : Cx} (K : PySem.W.Frag) (P : Program) (w : World) (h : X.K = K := by rfl) (hp : X.prog = P := by rfl) (hw : X.w = w := by rfl) : CallR X (.builtin "isinstance") (rIsiN K P w) := by subst hp hw; exact kIsiN K h
theorem kLenP {X : Cx} (K : PySem.W.Frag) (P : Program) (w : World) (h : X.K = K := by rfl) (hp : X.prog = P := by rfl) (hw : X.w = w := by rfl) : CallR X (.builtin "len") (rLenN K P w) := by subst hp hw; exact kLenN K h
theorem set_wideP {X : Cx} (P : Program) (w : World) (hu : X.A.units + 1 < cLine) (hp : X.prog = P := by rfl) (hw : X.w = w := by rfl) : PSet X (rSetW P w) := by subst hp hw; exact set_wide hu
end L2
set_option Elab.async false
set_option linter.all false
set_option maxRecDepth 100000
namespace L2
open PySem PySem.Spec PyProof.Rows
section
variable {X : Cx} {a b : Expr} {ta : TA} {x y : Str} {pos : Pos}
end
section
variable {σ : St} {H : Hp} {nx : St → Hp → Prop} {rt : VK} {bk ct : St → Hp → Prop} {ta : TA}
end
end L2
set_option Elab.async false
set_option linter.all false
set_option maxRecDepth 100000
set_option maxHeartbeats 4000000
namespace L2
open PySem PySem.Spec PyProof.Rows
section
variable {P : Program} {w : World}
end
section
variable {X : Cx} {tg : Expr}
end
end L2
set_option Elab.async false
set_option linter.all false
namespace L2
open PySem PySem.Spec PyProof.Rows
section
variable {J : It} {th : Hp → Hp} {n : Nat} {g : TG} {tb : TS} {nx : L2.St → Hp → Prop} {rt : VK} {σ : L2.St} {H : Hp}
theorem for2_b (Pv : Nat → L2.St → Hp → Prop) (h0 : Pv 0 σ H) (hgo : ∀ i σ H, i < n → Pv i σ H → J.go i H)
    (hs : ∀ (bk : L2.St → Hp → Prop) i x σ H H', i < n → Pv i σ H → J.yld i H x H' → g x σ H' fun σ2 H2 => tb ⟨Pv (i + 1), fun v H => rt v (th H), bk, Pv (i + 1)⟩ σ2 H2)
    (hd : ∀ σ H, Pv n σ H → J.stop n H ∧ nx σ (th H)) : ForW J th g tb nx rt σ H := for2_n Pv h0 hgo (hs fun σ H => nx σ (th H)) hd
end
end L2
set_option Elab.async false
set_option linter.all false
set_option maxRecDepth 100000
set_option maxHeartbeats 4000000
namespace L2
open PySem PySem.Spec PyProof.Rows PySem.Builtin PySem.Builtin.Str
section
variable {X : Cx}
def tFj : List TE → Str → TE
  | [], acc => fun _ H Q => Q (.str acc) H
  | te :: r, acc => fun σ H Q => te σ H fun v H1 => ∃ y : Str, v = .str y ∧ (acc ++ y).length ≤ 1000 ∧ tFj r (acc ++ y) σ H1 Q
structure QF (X : Cx) (es : List Expr) (ts : List TE) : Prop where
  r : ∀ (pins : List (Addr × Obj)) (s : Shared) (σ : St) (H : Hp) (acc : Str) (Q : VK), Inv X pins σ H s → acc.length ≤ 1000 → tFj ts acc σ H Q → wpAny (model X.prog X.w) X.A (joinParts acc (evalEach es X.env)) (EP X pins σ Q) X.xe s
end
end L2
set_option Elab.async false
set_option linter.all false
set_option maxRecDepth 100000
set_option maxHeartbeats 4000000
namespace L2
open PySem PySem.Spec PyProof.Rows
section
variable {prog : Program} {w : World} {A : Around} {E : Value → Shared → Prop} {s : Shared}
end
end L2
set_option Elab.async false
set_option linter.all false
set_option maxRecDepth 100000
set_option maxHeartbeats 4000000
namespace L2
open PySem PySem.Spec PyProof.Rows
section
variable {X : Cx}
end
section
variable {K : PySem.W.Frag} {P : Program} {w : World} {H : Hp} {Q : VK} {σ : L2.St}
end
end L2
set_option Elab.async false
set_option linter.all false
set_option maxRecDepth 100000
set_option maxHeartbeats 4000000
namespace L2
open PySem PySem.Spec PyProof.Rows
def toV : Value → V
  | .none => .non
  | .bool b => .bl b
  | .int i _ => .int i
  | .str x _ => .str x
  | .bytes b _ => .byt b
  | .float b _ => .flt b
  | .ref a => .ref a
  | .type n => .ty n
  | _ => .non
theorem toV_of {v : V} {u : Value} (r : RelV v u) : toV u = v := by
  cases v with
  | non => rw [show u = Value.none from r]; rfl
  | bl b => rw [show u = Value.bool b from r]; rfl
  | int i => obtain ⟨t, rfl⟩ := r; rfl
  | str x => obtain ⟨t, rfl⟩ := r; rfl
  | byt x => obtain ⟨t, rfl⟩ := r; rfl
  | flt x => obtain ⟨t, rfl⟩ := r; rfl
  | ref a => rw [show u = Value.ref a from r]; rfl
  | ty n => rw [show u = Value.type n from r]; rfl
section
variable {X : Cx}
end
section
variable {X : Cx} {a : Expr} {t : TA} {p pos : Pos} {tg : Expr}
end
section
variable {K : PySem.W.Frag} {σ : L2.St} {H : Hp} {ta : TA} {R : It → (Hp → Hp) → Hp → Prop}
end
end L2
set_option Elab.async false
set_option linter.all false
set_option maxRecDepth 100000
set_option maxHeartbeats 4000000
namespace L2
open PySem PySem.Spec PyProof.Rows
abbrev ZipAt (h : Heap) (z TI TO : Addr) (f0 : Value) (b : Bool) : Prop := h.get? z = some { cls := .type "zip", dict := none, data := .fields #[f0, .bool b, .bool false, .ref TI, .ref TO], slots := #[] }
section
variable {prog : Program} {w : World} {A : Around} {E : Value → Shared → Prop} {s : Shared}
end
section
variable {prog : Program} {w : World} {A : Around} {E : Value → Shared → Prop} {s : Shared}
end
end L2
set_option Elab.async false
set_option linter.all false
set_option maxRecDepth 100000
set_option maxHeartbeats 4000000
namespace L2
open PySem PySem.Spec PyProof.Rows
section
variable {prog : Program} {w : World} {A : Around} {E : Value → Shared → Prop} {s : Shared}
structure ZipSt (h : Heap) (d z TI TO i1 i2 l1 l2 : Addr) (k : Nat) (xs ys : Array Value) : Prop where
  ti : IsPair h TI (.ref i1) (.ref i2)
  a1 : h.IsListIter i1 l1 k
  a2 : h.IsListIter i2 l2 k
  b1 : h.IsList l1 xs
  b2 : h.IsList l2 ys
  st : (∃ a b, IsZip h z TI TO .none ∧ IsPair h TO a b) ∨ ∃ (T : Addr) (b : Bool) (ot : Obj), ZipAt h z TI TO (rawInt T) b ∧ h.get? T = some ot ∧ T ≠ z ∧ T ≠ i1 ∧ T ≠ i2 ∧ T ≠ d
structure ZipOff (d z TI TO i1 i2 l1 l2 : Addr) : Prop where
  z : z ≠ d
  TI : TI ≠ d
  TO : TO ≠ d
  i1 : i1 ≠ d
  i2 : i2 ≠ d
  l1 : l1 ≠ d
  l2 : l2 ≠ d
end
section
variable {prog : Program} {w : World} {KT : Type} [DecidableEq KT] {knd : KeyKind prog w KT} {A : Around} {E : Value → Shared → Prop}
end
end L2
set_option Elab.async false
set_option linter.all false
set_option maxRecDepth 100000
set_option maxHeartbeats 4000000
namespace L2
open PySem PySem.Spec PyProof.Rows
section
variable {prog : Program} {w : World} {KT : Type} [DecidableEq KT] {knd : KeyKind prog w KT} {A : Around} {E : Value → Shared → Prop}
end
section
variable {X : Cx} {a b : Expr} {t : TA} {p pos p2 pos2 : Pos}
end
end L2
set_option Elab.async false
set_option linter.all false
set_option maxRecDepth 100000
set_option maxHeartbeats 4000000
namespace L2
open PySem PySem.Spec PyProof.Rows
open PySem.AutoSeq1 (wpAny_loadPart')
open PySem.MeetsSeq PySem.MeetsSeq2 PySem.MeetsSeq3
section
variable {X : Cx} {pins : List (Addr × Obj)} {σ : St} {H : Hp} {s : Shared} {A : Around}
end
section
variable {X : Cx}
end
section
variable {P : Program} {w : World}
end
section
variable {X : Cx}
end
section
variable {K : PySem.W.Frag} {H : Hp} {Q : VK} {x y : V}
end
end L2
set_option Elab.async false
set_option linter.all false
set_option maxRecDepth 100000
set_option maxHeartbeats 4000000
namespace PySem
section
variable {prog : Program} {w : World} {K : Type} [DecidableEq K] {A : Around} {E : Value → Shared → Prop} {s : Shared}
end
end PySem
namespace L2
open PySem PySem.Spec PyProof.Rows
section
variable {X : Cx}
end
section
variable {X : Cx}
end
structure FunD (K : PySem.W.Frag) (x qual : Str) (st : Stmt) (T : Addr) (f : Addr) (fd : FuncData) : Prop where
  ex : ∃ (oc : Value) (od : Option Addr) (kV doc pm : Value) (an : Option Addr) (cdv ct : Value) (osl : Array (Option Value)),
    fd = PySem.W.fnOf x qual (defArgs st) (defBody st) (defScope st) (.ref T) kV doc pm an cdv ct ∧ K.lookup f = some ⟨oc, od, .func fd, osl⟩ ∧ PySem.W.codeIn K cdv qual = true
  kp : PySem.W.keepIn K (.ref f) = true
section
variable {P : Program} {w : World} {K : PySem.W.Frag} {mg : Str → Option Value} {base : Heap}
end
end L2
set_option Elab.async false
set_option linter.all false
set_option maxRecDepth 100000
set_option maxHeartbeats 4000000
namespace L2
open PySem PySem.Spec PyProof.Rows
open PySem.AutoSeq1 (wpAny_loadPart')
open PySem.MeetsSeq PySem.MeetsSeq2 PySem.MeetsSeq3
section
variable {P : Program} {w : World}
end
section
variable {X : Cx}
end
end L2
set_option Elab.async false
set_option linter.all false
set_option maxRecDepth 100000
set_option maxHeartbeats 4000000
namespace L2
open PySem PySem.Spec PyProof.Rows
section
variable {α β : Type}
theorem swap_map (g : α → β) (xs : Array α) (a b : Nat) : (xs.swapIfInBounds a b).map g = (xs.map g).swapIfInBounds a b := by
  by_cases h1 : a < xs.size
  · by_cases h2 : b < xs.size
    · refine Array.ext_getElem? fun k => ?_
      rw [Array.getElem?_map, getElem?_swapIB h1 h2, getElem?_swapIB (by simpa using h1) (by simpa using h2), Array.getElem?_map, Array.getElem?_map, Array.getElem?_map]
      repeat' split
      all_goals rfl
    · rw [Array.swapIfInBounds_def, Array.swapIfInBounds_def, dif_pos h1, dif_neg h2, dif_pos (by simpa using h1), dif_neg (by simpa using h2)]
  · rw [Array.swapIfInBounds_def, Array.swapIfInBounds_def, dif_neg h1, dif_neg (by simpa using h1)]
theorem swaps_map (g : α → β) (u v : Nat → Nat) : ∀ (l : List Nat) (xs : Array α), (l.foldl (fun z k => z.swapIfInBounds (u k) (v k)) xs).map g = l.foldl (fun z k => z.swapIfInBounds (u k) (v k)) (xs.map g)
  | [], _ => rfl
  | k :: l, xs => by
    rw [List.foldl_cons, List.foldl_cons, swaps_map g u v l, swap_map]
theorem mirror_map (g : α → β) (xs : Array α) (i j d : Nat) : (mirror xs i j d).map g = mirror (xs.map g) i j d := swaps_map g _ _ _ _
theorem bubble_map (g : α → β) (xs : Array α) (c d : Nat) : (bubble xs c d).map g = bubble (xs.map g) c d := swaps_map g _ _ _ _
end
def imK (rk : Value → Int) (p : Keyed) : Keyed := (.int (rk p.1) 0, p.2)
def kA (rk : Value → Int) (st : SortSt) (i : Nat) : Int := K ((arrOf st).map (imK rk)) i
structure TB (kd : SortKind) (base : Array Keyed) (st : SortSt) : Prop where
  pm : (arrOf st).Perm base
  kd : kindOf st = kd
  fl : failedOf st = none
  pe : pendingOf st = #[]
def LtBy (prog : Program) (w : World) (A : Around) (s : Shared) (rk : Value → Int) (kd : SortKind) (base : Array Keyed) : Prop :=
  ∀ (x y : Value) (E : Value → Shared → Prop) (Q : Bool → Shared → Prop), (∃ p ∈ base.toList, p.1 = x) → (∃ p ∈ base.toList, p.1 = y) → Q (decide (rk x < rk y)) s → wpAny (model prog w) A (keyLt' kd x y) Q E s
section
variable {prog : Program} {w : World} {A : Around} {E : Value → Shared → Prop} {s : Shared} {rk : Value → Int} {kd : SortKind} {base : Array Keyed} {st : SortSt}
theorem TB.sz (h : TB kd base st) : (arrOf st).size = base.size := h.pm.size_eq
theorem TB.put (h : TB kd base st) {xs : Array Keyed} (p : xs.Perm (arrOf st)) : TB kd base (setArr st xs) := ⟨p.trans h.pm, h.kd, h.fl, h.pe⟩
theorem kA_at {i : Nat} (h : i < (arrOf st).size) : kA rk st i = rk (arrOf st)[i].1 := by
  unfold kA K
  rw [Array.getElem?_map, Array.getElem?_eq_getElem h]; rfl
theorem kA_rev {i j : Nat} (h : j ≤ (arrOf st).size) (k : Nat) : kA rk (setArr st (mirror (arrOf st) i j ((j - i) / 2))) k = if i ≤ k ∧ k < j then kA rk st (i + j - 1 - k) else kA rk st k := by
  show K ((mirror (arrOf st) i j ((j - i) / 2)).map (imK rk)) k = _
  rw [mirror_map, K_mirror (by simpa using h)]; rfl
theorem kA_flat {i j : Nat} (h : j ≤ (arrOf st).size) (e : ∀ k, i ≤ k → k < j → kA rk st k = kA rk st (j - 1)) (k : Nat) : kA rk (setArr st (mirror (arrOf st) i j ((j - i) / 2))) k = kA rk st k := by
  rw [kA_rev h]
  split
  · next z => rw [e _ (by lia) (by lia), e k z.1 z.2]
  · rfl
theorem kA_mov {c d : Nat} (hc : c < (arrOf st).size) (hd : d ≤ c) (k : Nat) : kA rk (setArr st (bubble (arrOf st) c d)) k = if k = c - d then kA rk st c else if c - d < k ∧ k ≤ c then kA rk st (k - 1) else kA rk st k := by
  show K ((bubble (arrOf st) c d).map (imK rk)) k = _
  rw [bubble_map, K_bubble (by simpa using hc) hd]; rfl
def Asc (rk : Value → Int) (st : SortSt) (n : Nat) : Prop := ∀ i j, i ≤ j → j < n → kA rk st i ≤ kA rk st j
def Dsc (rk : Value → Int) (st : SortSt) (n : Nat) : Prop := ∀ i j, i ≤ j → j < n → kA rk st j ≤ kA rk st i
theorem Asc.one : Asc rk st 1 := fun i j h1 h2 => by
  rw [show i = j by lia]; exact Int.le_refl _
theorem Asc.next {n : Nat} (h : Asc rk st n) (h1 : 1 ≤ n) (hx : ¬ kA rk st n < kA rk st (n - 1)) : Asc rk st (n + 1) := fun i j hij hj => by
  rcases Nat.lt_or_ge j n with z | z
  · exact h i j hij z
  · have e : j = n := by lia
    subst e
    rcases Nat.lt_or_ge i j with y | y
    · have := h i (j - 1) (by lia) (by lia)
      lia
    · rw [show i = j by lia]; exact Int.le_refl _
theorem Dsc.next {st2 : SortSt} {n : Nat} (h : Dsc rk st n) (h1 : 1 ≤ n) (hx : kA rk st n ≤ kA rk st (n - 1)) (e : ∀ k, kA rk st2 k = kA rk st k) : Dsc rk st2 (n + 1) := fun i j hij hj => by
  rw [e, e]
  rcases Nat.lt_or_ge j n with z | z
  · exact h i j hij z
  · have e : j = n := by lia
    subst e
    rcases Nat.lt_or_ge i j with y | y
    · have := h i (j - 1) (by lia) (by lia)
      lia
    · rw [show i = j by lia]; exact Int.le_refl _
theorem tb_lt (hL : LtBy prog w A s rk kd base) (hB : TB kd base st) {i j : Nat} {Q : Option Bool → SortSt → Prop} (hi : i < base.size) (hj : j < base.size) (h : Q (some (decide (kA rk st i < kA rk st j))) st) : wpS (model prog w) A E s (ltAt' i j) Q st := by
  have z := hB.sz
  have hi' : i < (arrOf st).size := by lia
  have hj' : j < (arrOf st).size := by lia
  have mem : ∀ k (hk : k < (arrOf st).size), ∃ p ∈ base.toList, p.1 = (arrOf st)[k].1 := fun k hk => ⟨_, (Array.perm_iff_toList_perm.mp hB.pm).mem_iff.mp (by simp), rfl⟩
  rw [kA_at hi', kA_at hj'] at h
  rw [ltAt'_eq]
  refine wpS_bind (wpS_get ?_)
  show wpS _ _ _ _ (do let u ← elem' (arrOf st) i; let v ← elem' (arrOf st) j; lt' u v) Q st
  rw [elem'_eq, elem'_eq, Array.getElem?_eq_getElem hi', Array.getElem?_eq_getElem hj']
  refine wpS_bind (wpS_pure (wpS_bind (wpS_pure ?_)))
  rw [lt'_eq]
  refine wpS_bind (wpS_get ?_)
  rw [hB.kd]
  exact wpS_bind (wpS_lift (wpAny_attempt (hL _ _ _ _ (mem i hi') (mem j hj') ⟨rfl, wpS_pure h⟩)))
theorem tb_asc (hL : LtBy prog w A s rk kd base) (hB : TB kd base st) {a n : Nat} {Q : AscSt → SortSt → Prop} (ha : 1 ≤ a) (han : a ≤ n) (hn : n ≤ base.size) (hs : Asc rk st a)
    (h : ∀ m, a ≤ m → m ≤ n → Asc rk st m → (m = n ∨ kA rk st m < kA rk st (m - 1)) → Q (none, m) st) : wpS (model prog w) A E s (ascLoop a n) Q st := by
  unfold ascLoop
  refine wpS_forRange (I := fun k c z => z = st ∧ c = (none, k) ∧ Asc rk st k) (fun k c z h1 h2 h3 => ?_) (fun c z h3 => ?_) ⟨rfl, rfl, hs⟩
  · obtain ⟨rfl, rfl, h4⟩ := h3
    dsimp only
    refine wpS_bind (tb_lt hL hB (by lia) (by lia) ?_)
    by_cases e : kA rk z k < kA rk z (k - 1)
    · rw [decide_eq_true e]
      exact wpS_pure (h k h1 (by lia) h4 (.inr e))
    · rw [decide_eq_false e]
      exact wpS_pure ⟨rfl, rfl, h4.next (by lia) e⟩
  · obtain ⟨rfl, rfl, h4⟩ := h3
    have e : max a n = n := by lia
    rw [e] at h4 ⊢
    exact h n han (Nat.le_refl _) h4 (.inl rfl)
theorem tb_tail (hL : LtBy prog w A s rk kd base) (hB : TB kd base st) {m n : Nat} {Q : Option Nat → SortSt → Prop} (h1 : 1 ≤ m) (hmn : m ≤ n) (hn : n ≤ base.size) (hs : Dsc rk st m)
    (h : ∀ k st', TB kd base st' → 1 ≤ k → k ≤ n → Asc rk st' k → Q (some k) st') : wpS (model prog w) A E s (tail3 m n) Q st := by
  unfold tail3
  have hz : m ≤ (arrOf st).size := by rw [hB.sz]; lia
  have hB2 := hB.put (mirror_perm (arrOf st) 0 m ((m - 0) / 2))
  refine wpS_bind (wpS_reverse (wpS_bind (tb_asc hL hB2 h1 hmn hn (fun i j hij hj => ?_) fun k k1 k2 k3 _ => wpS_pure (h k _ hB2 (by lia) k2 k3))))
  rw [kA_rev hz, kA_rev hz, if_pos ⟨Nat.zero_le _, by lia⟩, if_pos ⟨Nat.zero_le _, hj⟩]
  exact hs _ _ (by lia) (by lia)
theorem tb_desc (hL : LtBy prog w A s rk kd base) (hB : TB kd base st) {m n : Nat} {Q : DescSt → SortSt → Prop} (h1 : 1 ≤ m) (hmn : m ≤ n) (hn : n ≤ base.size) (hs : Dsc rk st m)
    (h : ∀ k q st', TB kd base st' → m ≤ k → k ≤ n → Dsc rk st' k → q + 1 ≤ k → (∀ i, k - (q + 1) ≤ i → i < k → kA rk st' i = kA rk st' (k - 1)) → Q (none, k, q) st') : wpS (model prog w) A E s (descLoop m n) Q st := by
  unfold descLoop
  refine wpS_forRange (I := fun k c z => ∃ q, c = (none, k, q) ∧ TB kd base z ∧ Dsc rk z k ∧ q + 1 ≤ k ∧ ∀ i, k - (q + 1) ≤ i → i < k → kA rk z i = kA rk z (k - 1)) (fun k c z a1 a2 a3 => ?_) (fun c z a3 => ?_) ⟨0, rfl, hB, hs, h1, fun i b1 b2 => by rw [show i = m - 1 by lia]⟩
  · obtain ⟨q, rfl, b1, b2, b3, b4⟩ := a3
    dsimp only
    have hz : k ≤ (arrOf z).size := by rw [b1.sz]; lia
    have one : ∀ z' : SortSt, ∀ i, k + 1 - (0 + 1) ≤ i → i < k + 1 → kA rk z' i = kA rk z' (k + 1 - 1) := fun z' i c1 c2 => by rw [show i = k + 1 - 1 by lia]
    refine wpS_bind (tb_lt hL b1 (by lia) (by lia) ?_)
    by_cases e : kA rk z k < kA rk z (k - 1)
    · rw [decide_eq_true e]
      dsimp only
      rw [if_pos rfl]
      by_cases hq : q > 0
      · rw [if_pos hq]
        exact wpS_bind (wpS_reverse (wpS_pure ⟨0, rfl, b1.put (mirror_perm _ _ _ _), b2.next (by lia) (Int.le_of_lt e) (kA_flat hz b4), by lia, one _⟩))
      · rw [if_neg hq]
        exact wpS_pure ⟨0, rfl, b1, b2.next (by lia) (Int.le_of_lt e) (fun _ => rfl), by lia, one _⟩
    · rw [decide_eq_false e]
      dsimp only
      rw [if_neg (by decide)]
      refine wpS_bind (tb_lt hL b1 (by lia) (by lia) ?_)
      by_cases e2 : kA rk z (k - 1) < kA rk z k
      · rw [decide_eq_true e2]
        exact wpS_pure (h k q z b1 a1 (by lia) b2 b3 b4)
      · rw [decide_eq_false e2]
        have e3 : kA rk z k = kA rk z (k - 1) := by lia
        refine wpS_pure ⟨q + 1, rfl, b1, b2.next (by lia) (by lia) (fun _ => rfl), by lia, fun i c1 c2 => ?_⟩
        rw [show k + 1 - 1 = k by lia]
        rcases Nat.lt_or_ge i k with y | y
        · rw [e3]; exact b4 i (by lia) y
        · rw [show i = k by lia]
  · obtain ⟨q, rfl, b1, b2, b3, b4⟩ := a3
    have e : max m n = n := by lia
    rw [e] at b2 b3 b4 ⊢
    exact h n q z b1 hmn (Nat.le_refl _) b2 b3 b4
theorem tb_part (hL : LtBy prog w A s rk kd base) (hB : TB kd base st) {m n : Nat} {Q : Option Nat → SortSt → Prop} (hmn : m + 1 ≤ n) (hn : n ≤ base.size) (hs : Dsc rk st (m + 1))
    (h : ∀ k st', TB kd base st' → 1 ≤ k → k ≤ n → Asc rk st' k → Q (some k) st') : wpS (model prog w) A E s (descPart m n) Q st := by
  unfold descPart
  refine wpS_bind (wpS_lift (wpAny_rule ⟨rfl, wpS_bind (tb_desc hL hB (by lia) hmn hn hs fun k q z b1 a1 a2 b2 b3 b4 => ?_)⟩))
  dsimp only
  by_cases hq : q > 0
  · rw [if_pos hq]
    have hz : k ≤ (arrOf z).size := by rw [b1.sz]; lia
    refine wpS_bind (wpS_reverse (tb_tail hL (b1.put (mirror_perm _ _ _ _)) (by lia) a2 hn (fun i j hij hj => ?_) h))
    rw [kA_flat hz b4, kA_flat hz b4]
    exact b2 i j hij hj
  · rw [if_neg hq]
    exact tb_tail hL b1 (by lia) a2 hn b2 h
theorem tb_run (hL : LtBy prog w A s rk kd base) (hB : TB kd base st) {n : Nat} {Q : Option Nat → SortSt → Prop} (h1 : 1 ≤ n) (hn : n ≤ base.size)
    (h : ∀ k st', TB kd base st' → 1 ≤ k → k ≤ n → Asc rk st' k → Q (some k) st') : wpS (model prog w) A E s (countRun' 0 n) Q st := by
  rw [countRun0_eq]
  refine wpS_bind (tb_asc hL hB (Nat.le_refl 1) h1 hn Asc.one fun m m1 m2 hs hor => ?_)
  dsimp only
  by_cases e : m = n
  · rw [if_pos (by simpa using e)]
    exact wpS_pure (h m st hB m1 m2 hs)
  · rw [if_neg (by simpa using e)]
    have hlt := hor.resolve_left e
    by_cases hg : m > 1
    · rw [if_pos hg]
      refine wpS_bind (tb_lt hL hB (by lia) (by lia) ?_)
      by_cases r : kA rk st 0 < kA rk st (m - 1)
      · rw [decide_eq_true r]
        exact wpS_pure (h m st hB m1 m2 hs)
      · rw [decide_eq_false r]
        have hz : m ≤ (arrOf st).size := by rw [hB.sz]; lia
        have all : ∀ k, 0 ≤ k → k < m → kA rk st k = kA rk st (m - 1) := fun k _ hk => by
          have c1 := hs 0 k (by lia) hk
          have c2 := hs k (m - 1) (by lia) (by lia)
          lia
        refine wpS_bind (wpS_reverse (tb_part hL (hB.put (mirror_perm _ _ _ _)) (by lia) hn ?_ h))
        refine Dsc.next (st := st) (fun i j hij hj => ?_) (by lia) (Int.le_of_lt hlt) (kA_flat hz all)
        rw [all i (Nat.zero_le _) (by lia), all j (Nat.zero_le _) hj]; exact Int.le_refl _
    · rw [if_neg hg]
      have e1 : m = 1 := by lia
      subst e1
      refine tb_part hL hB (by lia) hn (Dsc.next (st := st) (fun i j hij hj => ?_) (Nat.le_refl 1) (Int.le_of_lt hlt) fun _ => rfl) h
      rw [show i = j by lia]; exact Int.le_refl _
theorem tb_bin (hL : LtBy prog w A s rk kd base) (hB : TB kd base st) {n ok : Nat} {Q : Bool → SortSt → Prop} (hn : n ≤ base.size) (hok : ok ≤ n) (hs : Asc rk st ok)
    (h : ∀ st', TB kd base st' → Asc rk st' n → Q true st') : wpS (model prog w) A E s (binarySort' 0 n ok) Q st := by
  rw [binarySort'_eq]
  simp only [Nat.zero_add]
  refine wpS_bind (wpS_mono (wpS_forRange (I := fun k c z => c = (none, ()) ∧ TB kd base z ∧ Asc rk z (min k n)) (Q := fun c z => c = (none, ()) ∧ TB kd base z ∧ Asc rk z n) (fun k c z a1 a2 a3 => ?_) (fun c z a3 => ?_) ⟨rfl, hB, fun i j hij hj => ?_⟩) fun c z a3 => ?_)
  · obtain ⟨rfl, b1, b2⟩ := a3
    rw [show min k n = k by lia] at b2
    refine wpS_bind (wpS_mono (wpS_forRange (I := fun x c y => y = z ∧ ∃ l r, c = (none, l, r) ∧ l ≤ r ∧ r ≤ k ∧ r - l ≤ k - x ∧ (∀ i, i < l → kA rk z i ≤ kA rk z k) ∧ (∀ i, r ≤ i → i < k → kA rk z k < kA rk z i))
      (Q := fun c y => y = z ∧ ∃ l r, c = (none, l, r) ∧ l ≤ k ∧ (∀ i, i < l → kA rk z i ≤ kA rk z k) ∧ (∀ i, l ≤ i → i < k → kA rk z k < kA rk z i)) (fun x c y c1 c2 c3 => ?_) (fun c y c3 => ?_) ⟨rfl, 0, k, rfl, Nat.zero_le _, Nat.le_refl _, by lia, fun i q => absurd q (by lia), fun i q1 q2 => absurd q2 (by lia)⟩) fun c y c3 => ?_)
    · obtain ⟨rfl, l, r, rfl, d1, d2, d3, d4, d5⟩ := c3
      dsimp only
      by_cases g : l ≥ r
      · rw [if_pos g]
        have e : l = r := by lia
        subst e
        exact wpS_pure ⟨rfl, l, l, rfl, d2, d4, d5⟩
      · rw [if_neg g]
        refine wpS_bind (tb_lt hL b1 (by lia) (by lia) ?_)
        by_cases e : kA rk y k < kA rk y ((l + r) / 2)
        · rw [decide_eq_true e]
          refine wpS_pure ⟨rfl, l, (l + r) / 2, rfl, by lia, by lia, by lia, d4, fun i q1 q2 => ?_⟩
          have := b2 ((l + r) / 2) i q1 q2
          lia
        · rw [decide_eq_false e]
          refine wpS_pure ⟨rfl, (l + r) / 2 + 1, r, rfl, by lia, by lia, by lia, fun i q1 => ?_, d5⟩
          have := b2 i ((l + r) / 2) (by lia) (by lia)
          lia
    · obtain ⟨rfl, l, r, rfl, d1, d2, d3, d4, d5⟩ := c3
      have e : l = r := by lia
      subst e
      exact ⟨rfl, l, l, rfl, d2, d4, d5⟩
    · obtain ⟨rfl, l, r, rfl, d1, d4, d5⟩ := c3
      show wpS _ _ _ _ (do moveDown' k l; pure (ForInStep.yield (none, ()))) _ y
      rw [moveDown'_eq]
      refine wpS_bind (wpS_modify (wpS_pure ⟨rfl, b1.put (bubble_perm _ _ _), fun i j hij hj => ?_⟩))
      have hk : k < (arrOf y).size := by rw [b1.sz]; lia
      rw [kA_mov hk (by lia), kA_mov hk (by lia), show k - (k - l) = l by lia]
      have f1 := fun i (q : i < l) => d4 i q
      have f2 := fun i (q1 : l ≤ i) (q2 : i < k) => d5 i q1 q2
      by_cases i1 : i = l
      · rw [if_pos i1]
        by_cases j1 : j = l
        · rw [if_pos j1]; exact Int.le_refl _
        · rw [if_neg j1, if_pos ⟨by lia, by lia⟩]
          exact Int.le_of_lt (d5 (j - 1) (by lia) (by lia))
      · rw [if_neg i1]
        by_cases i2 : l < i ∧ i ≤ k
        · rw [if_pos i2, if_neg (by lia), if_pos ⟨by lia, by lia⟩]
          exact b2 _ _ (by lia) (by lia)
        · rw [if_neg i2]
          have il : i < l := by lia
          by_cases j1 : j = l
          · rw [if_pos j1]; exact d4 i il
          · rw [if_neg j1]
            by_cases j2 : l < j ∧ j ≤ k
            · rw [if_pos j2]; exact b2 _ _ (by lia) (by lia)
            · rw [if_neg j2]; exact b2 _ _ hij (by lia)
  · obtain ⟨hc, b1, b2⟩ := a3
    rw [show min (max (max ok 1) n) n = n by lia] at b2
    exact ⟨hc, b1, b2⟩
  · by_cases e : ok = 0
    · rw [show i = j by lia]; exact Int.le_refl _
    · exact hs i j hij (by lia)
  · obtain ⟨rfl, b1, b2⟩ := a3
    exact wpS_pure (h z b1 b2)
end
end L2
set_option Elab.async false
set_option linter.all false
set_option maxRecDepth 100000
set_option maxHeartbeats 4000000
namespace L2
open PySem PySem.Spec PyProof.Rows
section
variable {prog : Program} {w : World} {A : Around} {E : Value → Shared → Prop} {s : Shared} {rk : Value → Int} {kd : SortKind} {base : Array Keyed} {st : SortSt}
structure TD (rk : Value → Int) (base : Array Keyed) (st : SortSt) : Prop where
  pm : (arrOf st).Perm base
  fl : failedOf st = none
  pe : pendingOf st = #[(0, base.size, 0)]
  up : Asc rk st base.size
theorem TB.end_ (h : TB kd base st) (up : Asc rk st base.size) : TD rk base (setPending st ((pendingOf st).push (0, base.size, 0))) := ⟨h.pm, h.fl, by show (pendingOf st).push _ = _; rw [h.pe]; rfl, up⟩
theorem tb_all (hL : LtBy prog w A s rk kd base) (hB : TB kd base st) {Q : Unit → SortSt → Prop} (h2 : 2 ≤ base.size) (h64 : base.size < 64)
    (h : ∀ st', (arrOf st').Perm base → failedOf st' = none → Asc rk st' base.size → Q () st') : wpS (model prog w) A E s sortRuns' Q st := by
  rw [sortRuns'_eq]
  refine wpS_bind (wpS_get ?_)
  dsimp only
  have hm : minRun' base.size base.size 0 = base.size := by
    generalize hb : base.size = b at h2 h64
    match b, h2, h64 with
    | f + 1, _, h64 => rw [minRun'_succ, if_pos h64]
  simp only [hB.sz, hm]
  refine wpS_bind (wpS_mono (wpS_forRange (I := fun k c z => (k = 0 ∧ c = (none, 0) ∧ TB kd base z) ∨ (1 ≤ k ∧ c = (none, base.size) ∧ TD rk base z)) (Q := fun c z => c = (none, base.size) ∧ TD rk base z) (fun k c z _ hk hI => ?_) (fun c z hI => ?_) (.inl ⟨rfl, rfl, hB⟩)) fun c z hI => ?_)
  · rcases hI with ⟨rfl, rfl, b1⟩ | ⟨_, rfl, b1⟩
    · dsimp only
      rw [if_neg (by lia)]
      simp only [Nat.sub_zero, Nat.min_self, Nat.zero_add]
      refine wpS_bind (tb_run hL b1 (by lia) (Nat.le_refl _) fun m z2 b2 m1 m2 u2 => ?_)
      dsimp only
      have go : ∀ z3, TB kd base z3 → Asc rk z3 base.size → wpS (model prog w) A E s (modify (fun q => setPending q ((pendingOf q).push (0, base.size, 0))) >>= fun _ => pure (ForInStep.yield ((none : Option Unit), base.size)))
          (fun r st' => match r with | .done c' => c' = (none, base.size) ∧ TD rk base st' | .yield c' => (0 + 1 = 0 ∧ c' = (none, 0) ∧ TB kd base st') ∨ (1 ≤ 0 + 1 ∧ c' = (none, base.size) ∧ TD rk base st')) z3 := fun z3 c1 c2 =>
        wpS_bind (wpS_modify (wpS_pure (.inr ⟨Nat.le_refl 1, rfl, c1.end_ c2⟩)))
      by_cases e : m < base.size
      · rw [if_pos e]
        refine wpS_bind (wpS_lift (wpAny_rule ⟨rfl, wpS_bind (tb_bin hL b2 (Nat.le_refl _) m2 u2 fun z3 b3 u3 => ?_)⟩))
        simp only [Bool.not_true, Bool.false_eq_true, if_false]
        refine wpS_bind (wpS_get ?_)
        rw [show (pendingOf z3).back? = none by rw [b3.pe]; rfl]
        exact go z3 b3 u3
      · rw [if_neg e]
        have e' : m = base.size := by lia
        subst e'
        refine wpS_bind (wpS_get ?_)
        rw [show (pendingOf z2).back? = none by rw [b2.pe]; rfl]
        exact go z2 b2 u2
    · dsimp only
      rw [if_pos (Nat.le_refl _)]
      exact wpS_pure ⟨rfl, b1⟩
  · rcases hI with ⟨e, _⟩ | ⟨_, hc, b1⟩
    · lia
    · exact ⟨hc, b1⟩
  · obtain ⟨rfl, b1⟩ := hI
    dsimp only
    refine wpS_bind (wpS_mono (wpS_forRange (I := fun _ c y => y = z ∧ c = (none, ())) (Q := fun c y => y = z ∧ c = (none, ())) (fun k c y _ _ hI => ?_) (fun _ _ q => q) ⟨rfl, rfl⟩) fun c y hI => ?_)
    · obtain ⟨rfl, rfl⟩ := hI
      refine wpS_bind (wpS_get ?_)
      rw [if_pos (by rw [b1.pe]; exact Nat.le_refl 1)]
      exact wpS_pure ⟨rfl, rfl⟩
    · obtain ⟨rfl, rfl⟩ := hI
      exact wpS_pure (h _ b1.pm b1.fl b1.up)
end
def keyV : V → List Nat
  | .str a => a.cps.toList
  | .bl b => [b.toNat]
  | _ => []
abbrev keyT (xs : List V) : List (List Nat) := xs.map keyV
def SameT (x y : V) : Prop := (∃ a b, x = .str a ∧ y = .str b) ∨ (∃ a b, x = .bl a ∧ y = .bl b)
theorem str_cps {a b : Str} (h : a.cps.toList = b.cps.toList) : a = b := by
  cases a; cases b
  congr
  exact Array.toList_inj.mp h
theorem SameT.eq {x y : V} (h : SameT x y) : eqV x y = decide (keyV x = keyV y) := by
  rcases h with ⟨a, b, rfl, rfl⟩ | ⟨a, b, rfl, rfl⟩
  · show (a == b) = decide (a.cps.toList = b.cps.toList)
    rw [Bool.eq_iff_iff, beq_iff_eq, decide_eq_true_eq]
    exact ⟨fun e => by rw [e], str_cps⟩
  · cases a <;> cases b <;> rfl
theorem SameT.flat {x y : V} (h : SameT x y) : flatV x = true ∧ flatV y = true := by
  rcases h with ⟨a, b, rfl, rfl⟩ | ⟨a, b, rfl, rfl⟩ <;> exact ⟨rfl, rfl⟩
theorem gives_bool_lt (a b : Bool) : Gives (Builtin.«int.__lt__» ⟨[.bool a, .bool b], []⟩) (.val (.bool (decide (a.toNat < b.toNat)))) := by
  cases a <;> cases b <;> exact .of_eq rfl
section
variable {P : Program} {w : World} {A : Around} {E : Value → Shared → Prop} {s : Shared}
theorem oneLt_V {x y : V} {u v : Value} {fl : Bool} {Q : Bool → Shared → Prop} (h : SameT x y) (rx : RelV x u) (ry : RelV y v) (hf : fl = true → ∃ a, x = .str a) (q : Q (decide (keyV x < keyV y)) s) : wpAny (model P w) A (oneLt' fl u v) Q E s := by
  rcases h with ⟨a, b, rfl, rfl⟩ | ⟨a, b, rfl, rfl⟩
  · obtain ⟨t1, rfl⟩ := (show ∃ t, u = Value.str a t from rx)
    obtain ⟨t2, rfl⟩ := (show ∃ t, v = Value.str b t from ry)
    cases fl with
    | true => exact oneLt_str q
    | false =>
      rw [oneLt'_eq]
      simp only [Bool.false_eq_true, if_false]
      exact wpAny_bind (richCompare_gives (op := .Lt) (typeIs_str _ _ _) (typeIs_str _ _ _) F.slot_str_lt F.entry_str_lt (F.args_str_lt_2 _ _) (gives_str_lt _ _ _ _) (fun e => nomatch e) (wpAny_truthy_bool q))
  · cases fl with
    | true => obtain ⟨a', e⟩ := hf rfl; cases e
    | false =>
      cases rx
      cases ry
      rw [oneLt'_eq]
      simp only [Bool.false_eq_true, if_false]
      have e : decide (keyV (.bl a) < keyV (.bl b)) = decide (a.toNat < b.toNat) := by cases a <;> cases b <;> decide
      rw [e] at q
      exact wpAny_bind (richCompare_gives (op := .Lt) (PyProof.Rows.typeIs_bool _ _) (PyProof.Rows.typeIs_bool _ _) F.slot_bool_lt F.entry_int_lt (F.args_int_lt_2 _ _) (gives_bool_lt _ _) (fun e => nomatch e) (wpAny_truthy_bool q))
def kBody (b : Bool) (x : (Value × Value) × Nat) (_ : Option Bool × Unit) : Sem (ForInStep (Option Bool × Unit)) := do
  let e ← eqBool x.1.1 x.1.2
  if (!e) = true then do
    let z ← oneLt' (b && x.2 == 0) x.1.1 x.1.2
    pure (ForInStep.done (some z, ()))
  else pure (ForInStep.yield (none, ()))
theorem keyLt_tup0 (b : Bool) (x y : Value) : keyLt' (tuples' b) x y = (do
    let xs ← Builtin.List.listItems x
    let ys ← Builtin.List.listItems y
    for ((p, q), i) in (xs.toList.zip ys.toList).zipIdx do
      if !(← eqBool p q) then return ← oneLt' (b && i == 0) p q
    return xs.size < ys.size) := rfl
theorem keyLt_tup (b : Bool) (x y : Value) : keyLt' (tuples' b) x y = (do
    let xs ← Builtin.List.listItems x
    let ys ← Builtin.List.listItems y
    let r ← forIn (xs.toList.zip ys.toList).zipIdx ((none : Option Bool), ()) (kBody b)
    match r.1 with
    | some a => pure a
    | none => pure (decide (xs.size < ys.size))) := by
  rw [keyLt_tup0]
  congr 1
  funext xs
  congr 1
  funext ys
  have e : (fun (x : (Value × Value) × Nat) (_ : Option Bool × Unit) => (match x with
      | ((p, q), i) => do
        let c ← eqBool p q
        if (!c) = true then do
          let d ← oneLt' (b && i == 0) p q
          pure (ForInStep.done (some d, ()))
        else pure (ForInStep.yield (none, ())) : Sem (ForInStep (Option Bool × Unit)))) = kBody b := by
    funext x r
    obtain ⟨⟨p, q⟩, i⟩ := x
    rfl
  rw [← e]
  congr 1
  funext r
  obtain ⟨r1, r2⟩ := r
  cases r1 <;> rfl
theorem tup_loop : ∀ {xs ys : List V} {us vs : List Value} (k : Nat) {Q : Option Bool × Unit → Shared → Prop}, Paired SameT xs ys → Vals xs us → Vals ys vs → (k = 0 → ∀ x ∈ xs.head?, ∃ a, x = V.str a) →
    (keyT xs = keyT ys → Q (none, ()) s) → (keyT xs ≠ keyT ys → Q (some (decide (keyT xs < keyT ys)), ()) s) → wpAny (model P w) A (forIn ((us.zip vs).zipIdx k) ((none : Option Bool), ()) (kBody true)) Q E s
  | _, _, _, _, k, Q, .nil, .nil, .nil, _, h1, _ => by
    show wpAny (model P w) A (forIn [] _ _) Q E s
    rw [List.forIn_nil]
    exact wpAny_pure (h1 rfl)
  | _, _, _, _, k, Q, .cons (a := x) (b := y) (l₁ := xs) (l₂ := ys) st r, .cons (b := u) rx t1, .cons (b := v) ry t2, hk, h1, h2 => by
    rw [List.zip_cons_cons, List.zipIdx_cons, List.forIn_cons]
    refine wpAny_bind (wpAny_bind (EqP.of (eqAt_V rx ry st.flat.1 st.flat.2) _ _ ?_))
    rw [st.eq]
    by_cases e : keyV x = keyV y
    · rw [decide_eq_true e]
      refine wpAny_pure ?_
      refine tup_loop (k + 1) r t1 t2 (fun z => absurd z (by lia)) (fun z => h1 (by show keyV x :: keyT xs = keyV y :: keyT ys; rw [e, z])) (fun z => ?_)
      have h3 := h2 (fun z2 => z (List.cons.inj (show keyV x :: keyT xs = keyV y :: keyT ys from z2)).2)
      have e3 : decide (keyT (x :: xs) < keyT (y :: ys)) = decide (keyT xs < keyT ys) := by
        rw [Bool.eq_iff_iff, decide_eq_true_eq, decide_eq_true_eq]
        show keyV x :: keyT xs < keyV y :: keyT ys ↔ _
        rw [List.cons_lt_cons_iff, e]
        exact ⟨fun z => z.elim (fun z => absurd z (List.lt_irrefl _)) (fun z => z.2), fun z => .inr ⟨rfl, z⟩⟩
      rw [e3] at h3
      exact h3
    · rw [decide_eq_false e]
      show wpAny _ _ (oneLt' (true && k == 0) u v >>= fun z => pure (ForInStep.done (some z, ()))) _ _ s
      refine wpAny_bind (oneLt_V st rx ry (fun z => ?_) (wpAny_pure (wpAny_pure ?_)))
      · exact hk (by simpa using z) x rfl
      · have h3 := h2 (fun z2 => e (List.cons.inj (show keyV x :: keyT xs = keyV y :: keyT ys from z2)).1)
        have e3 : decide (keyT (x :: xs) < keyT (y :: ys)) = decide (keyV x < keyV y) := by
          rw [Bool.eq_iff_iff, decide_eq_true_eq, decide_eq_true_eq]
          show keyV x :: keyT xs < keyV y :: keyT ys ↔ _
          rw [List.cons_lt_cons_iff]
          exact ⟨fun z => z.elim id (fun z => absurd z.1 e), .inl⟩
        rw [e3] at h3
        exact h3
theorem keyLt_V {a b : Addr} {xs ys : List V} {us vs : List Value} {Q : Bool → Shared → Prop} (ha : s.heap.IsTuple a us.toArray) (hb : s.heap.IsTuple b vs.toArray) (rx : Vals xs us) (ry : Vals ys vs) (hp : Paired SameT xs ys) (hf : ∀ x ∈ xs.head?, ∃ a, x = V.str a)
    (q : Q (decide (keyT xs < keyT ys)) s) : wpAny (model P w) A (keyLt' (tuples' true) (.ref a) (.ref b)) Q E s := by
  rw [keyLt_tup]
  obtain ⟨o1, e1, _, n1, d1⟩ := id ha
  obtain ⟨o2, e2, _, n2, d2⟩ := id hb
  refine wpAny_bind (listItems_at e1 d1 (wpAny_bind (listItems_at e2 d2 (wpAny_bind (tup_loop 0 hp rx ry (fun _ => hf) (fun e => ?_) (fun e => ?_))))))
  · have l1 := rx.length
    have l2 := ry.length
    have l3 := hp.length
    show wpAny _ _ (pure (decide (us.toArray.size < vs.toArray.size))) _ _ s
    rw [show decide (us.toArray.size < vs.toArray.size) = decide (keyT xs < keyT ys) by
      rw [e, decide_eq_false (List.lt_irrefl _), decide_eq_false (by simp; lia)]]
    exact wpAny_pure q
  · exact wpAny_pure q
end
end L2
set_option Elab.async false
set_option linter.all false
set_option maxRecDepth 100000
set_option maxHeartbeats 4000000
namespace L2
open PySem PySem.Spec PyProof.Rows
abbrev KyT := List (List Nat)
def rkT (ks : List KyT) (k : KyT) : Int := (ks.countP (fun x => decide (x < k)) : Nat)
theorem kt_trans {a b c : KyT} (h1 : a < b) (h2 : b < c) : a < c := List.lt_trans h1 h2
theorem kt_le {a b c : KyT} (h1 : a < b) (h2 : ¬ c < b) : a < c := Decidable.byContradiction fun z => h2 (List.lt_of_le_of_lt (List.not_lt.mp z) h1)
theorem kt_irr (a : KyT) : ¬ a < a := List.lt_irrefl a
theorem kt_anti {a b : KyT} (h1 : ¬ a < b) (h2 : ¬ b < a) : a = b := List.le_antisymm (List.not_lt.mp h2) (List.not_lt.mp h1)
theorem countP_lt {α : Type} {p q : α → Bool} : ∀ {l : List α}, (∀ x ∈ l, p x = true → q x = true) → (∃ x ∈ l, q x = true ∧ p x = false) → l.countP p < l.countP q
  | [], _, h => by obtain ⟨_, h, _⟩ := h; cases h
  | a :: l, h1, h2 => by
    have le : l.countP p ≤ l.countP q := List.countP_mono_left fun x hx => h1 x (List.mem_cons_of_mem _ hx)
    by_cases e : q a = true ∧ p a = false
    · rw [List.countP_cons_of_pos e.1, List.countP_cons_of_neg (by rw [e.2]; decide)]
      lia
    · have ih : l.countP p < l.countP q := by
        refine countP_lt (fun x hx => h1 x (List.mem_cons_of_mem _ hx)) ?_
        obtain ⟨x, hx, h3⟩ := h2
        rcases List.mem_cons.mp hx with rfl | hx
        · exact absurd h3 e
        · exact ⟨x, hx, h3⟩
      have ha := h1 a List.mem_cons_self
      cases hp : p a with
      | true => rw [List.countP_cons_of_pos hp, List.countP_cons_of_pos (ha hp)]; lia
      | false =>
        rw [List.countP_cons_of_neg (by rw [hp]; decide)]
        have : l.countP q ≤ (a :: l).countP q := by rw [List.countP_cons]; lia
        lia
theorem rk_lt {ks : List KyT} {a b : KyT} (ha : a ∈ ks) : decide (rkT ks a < rkT ks b) = decide (a < b) := by
  rw [Bool.eq_iff_iff, decide_eq_true_eq, decide_eq_true_eq]
  unfold rkT
  constructor
  · intro h
    by_cases z : a < b
    · exact z
    · exfalso
      have le : ks.countP (fun x => decide (x < b)) ≤ ks.countP (fun x => decide (x < a)) := List.countP_mono_left fun x _ hx => by
        rw [decide_eq_true_eq] at hx ⊢
        exact kt_le hx z
      lia
  · intro h
    have lt : ks.countP (fun x => decide (x < a)) < ks.countP (fun x => decide (x < b)) := countP_lt (fun x _ hx => by
      rw [decide_eq_true_eq] at hx ⊢
      exact kt_trans hx h) ⟨a, ha, decide_eq_true h, decide_eq_false (kt_irr a)⟩
    lia
theorem rk_le {ks : List KyT} {a b : KyT} (hb : b ∈ ks) (h : rkT ks a ≤ rkT ks b) : ¬ b < a := fun z => by
  have e := rk_lt (ks := ks) (b := a) hb
  rw [decide_eq_true z] at e
  have := of_decide_eq_true e
  lia
section
variable {P : Program} {w : World} {A : Around} {E : Value → Shared → Prop} {s : Shared}
theorem mapM_wp {β : Type} {f : Value → Sem β} {g : Value → β} : ∀ {l : List Value} {Q : List β → Shared → Prop}, (∀ v ∈ l, ∀ Q' : β → Shared → Prop, Q' (g v) s → wpAny (model P w) A (f v) Q' E s) → Q (l.map g) s → wpAny (model P w) A (l.mapM f) Q E s
  | [], Q, _, q => by rw [List.mapM_nil]; exact wpAny_pure q
  | v :: l, Q, h, q => by
    rw [List.mapM_cons]
    exact wpAny_bind (h v List.mem_cons_self _ (wpAny_bind (mapM_wp (fun u hu => h u (List.mem_cons_of_mem _ hu)) (wpAny_pure q))))
def fstAt (h : Heap) : Value → Option Value
  | .ref a => match h.get? a with
    | some o => match o.data with
      | .seq xs _ => xs[0]?
      | _ => none
    | none => none
  | _ => none
theorem fst_of {h : Heap} {a : Addr} {o : Obj} {xs : Array Value} {n : Nat} (e : h.get? a = some o) (d : o.data = .seq xs n) : fstAt h (.ref a) = xs[0]? := by
  simp only [fstAt, e, d]
theorem firstOf_eq (v : Value) : firstOfTuple' v = (do
    if (← typeOf v) != .type "tuple" then return none
    return (← Builtin.List.listItems v)[0]?) := rfl
theorem first_wp {a : Addr} {us : List Value} {Q : Option Value → Shared → Prop} (h : s.heap.IsTuple a us.toArray) (q : Q (fstAt s.heap (.ref a)) s) : wpAny (model P w) A (firstOfTuple' (.ref a)) Q E s := by
  rw [firstOf_eq]
  obtain ⟨o, e, hc, n, d⟩ := id h
  refine wpAny_bind (wpAny_typeOf (T := "tuple") ⟨o, e, hc⟩ ?_)
  rw [if_neg (by decide)]
  refine wpAny_bind (listItems_at e d (wpAny_pure ?_))
  rw [fst_of e d] at q
  exact q
theorem kind_wp {vs : List Value} {Q : SortKind → Shared → Prop} (hne : vs ≠ []) (h : ∀ v ∈ vs, ∃ (a : Addr) (us : List Value) (x : Str) (t : Tok), v = .ref a ∧ s.heap.IsTuple a us.toArray ∧ us[0]? = some (.str x t)) (q : Q (tuples' true) s) : wpAny (model P w) A (keyKind' vs.toArray) Q E s := by
  have hf : ∀ v ∈ vs, ∃ (x : Str) (t : Tok), fstAt s.heap v = some (.str x t) := fun v hv => by
    obtain ⟨a, us, x, t, rfl, hi, hu⟩ := h v hv
    obtain ⟨o, e, hc, n, d⟩ := id hi
    refine ⟨x, t, ?_⟩
    rw [fst_of e d]
    simpa using hu
  rw [keyKind'_eq, List.mapM_toArray]
  refine wpAny_bind (wpAny_map (mapM_wp (g := fstAt s.heap) (fun v hv Q' q' => ?_) ?_))
  · obtain ⟨a, us, x, t, rfl, hi, _⟩ := h v hv
    exact first_wp hi q'
  rw [if_pos (by
    simp only [List.all_toArray, List.all_map, List.all_eq_true]
    intro v hv
    obtain ⟨x, t, e⟩ := hf v hv
    show (fstAt s.heap v).isSome = true
    rw [e]; rfl)]
  refine wpAny_bind (wpAny_rule ?_)
  obtain ⟨fs, efs, hfs, hfn⟩ : ∃ fs : List Value, ((vs.map (fstAt s.heap)).toArray.filterMap id) = fs.toArray ∧ (∀ v ∈ fs, ∃ (x : Str) (t : Tok), v = .str x t) ∧ fs ≠ [] := by
    refine ⟨(vs.map (fstAt s.heap)).filterMap id, by simp, fun v hv => ?_, ?_⟩
    · obtain ⟨o, ho, e⟩ := List.mem_filterMap.mp hv
      obtain ⟨u, hu, rfl⟩ := List.mem_map.mp ho
      obtain ⟨x, t, e2⟩ := hf u hu
      rw [e2] at e
      exact ⟨x, t, (Option.some.inj e).symm⟩
    · obtain ⟨v, r, rfl⟩ := List.exists_cons_of_ne_nil hne
      obtain ⟨x, t, e⟩ := hf v List.mem_cons_self
      rw [List.map_cons, List.filterMap_cons_some (b := .str x t) e]
      exact List.cons_ne_nil _ _
  rw [efs, oneTypeOnly'_eq, List.mapM_toArray]
  refine wpAny_bind (wpAny_bind (wpAny_map (mapM_wp (g := fun _ => Value.type "str") (fun v hv Q' q' => ?_) ?_)))
  · obtain ⟨x, t, rfl⟩ := hfs v hv
    exact wpAny_typeOf (typeIs_str s x t) q'
  obtain ⟨v, r, rfl⟩ := List.exists_cons_of_ne_nil hfn
  have h0 : ((v :: r).map fun _ => Value.type "str").toArray[0]? = some (Value.type "str") := by simp
  rw [h0]
  have ha : (((v :: r).map fun _ => Value.type "str").toArray.all fun x => x == Value.type "str") = true := by
    simp only [List.all_toArray, List.all_map, List.all_eq_true]
    intro _ _
    rfl
  dsimp only
  rw [if_pos ha]
  exact wpAny_pure (wpAny_pure q)
structure TupK (h : Heap) (kf : Value → KyT) (v : Value) : Prop where
  at_ : ∃ (a : Addr) (us : List Value) (xs : List V) (x : Str) (r : List V), v = .ref a ∧ h.IsTuple a us.toArray ∧ Vals xs us ∧ xs = .str x :: r ∧ kf v = keyT xs
def ShapeK (h : Heap) (v u : Value) : Prop := ∀ (a b : Addr) (us vs : List Value) (xs ys : List V), v = .ref a → u = .ref b → h.IsTuple a us.toArray → h.IsTuple b vs.toArray → Vals xs us → Vals ys vs → Paired SameT xs ys
theorem ltBy_of {vs : List Value} {kf : Value → KyT} (h1 : ∀ v ∈ vs, TupK s.heap kf v) (h2 : ∀ v ∈ vs, ∀ u ∈ vs, ShapeK s.heap v u) : LtBy P w A s (fun v => rkT (vs.map kf) (kf v)) (tuples' true) (pairsOf vs) := by
  intro x y E' Q hx hy q
  have mem : ∀ z, (∃ p ∈ (pairsOf vs).toList, p.1 = z) → z ∈ vs := fun z hz => by
    obtain ⟨p, hp, rfl⟩ := hz
    rw [pairsOf_toList] at hp
    exact (mem_zip_self hp).2
  have mx := mem x hx
  have my := mem y hy
  rw [rk_lt (List.mem_map.mpr ⟨x, mx, rfl⟩)] at q
  obtain ⟨a, us, xs, n1, r1, rfl, i1, v1, e1, k1⟩ := (h1 x mx).at_
  obtain ⟨b, vs', ys, n2, r2, rfl, i2, v2, e2, k2⟩ := (h1 y my).at_
  rw [k1, k2] at q
  exact keyLt_V i1 i2 v1 v2 (h2 _ mx _ my _ _ _ _ _ _ rfl rfl i1 i2 v1 v2) (fun x hx => by rw [e1] at hx; exact ⟨n1, (Option.some.inj hx).symm⟩) q
theorem sort_by {a : Addr} {vs : List Value} {n : Nat} {kd : SortKind} {rk : Value → Int} {Q : Fin → Shared → Prop} (ho : s.heap.get? a = some (seqObj "list" vs.toArray n)) (h64 : vs.length < 64)
    (hk : 2 ≤ vs.length → ∀ h6 : Heap, h6 = ((s.heap.update a (Obj.mapSeq fun _ => #[])).push (seqObj "tuple" vs.toArray 0)).push (seqObj "list" #[] 0) → (∀ Q' : SortKind → Shared → Prop, Q' kd { s with heap := h6 } → wpAny (model P w) A (keyKind' vs.toArray) Q' E { s with heap := h6 }) ∧ LtBy P w A { s with heap := h6 } rk kd (pairsOf vs))
    (h : ∀ out : Array Value, out.toList.Perm vs → (∀ (i j : Nat) (u v : Value), i ≤ j → out[i]? = some u → out[j]? = some v → rk u ≤ rk v) → Q (.done (.ret .none)) { s with heap := sortedHeap s.heap a vs out }) :
    wpAny (model P w) A (Builtin.«list.sort» ⟨[.ref a], []⟩) Q E s := by
  have hlt : a < s.heap.objs.size := Heap.lt_size ho
  have h64' : (64 : Nat) ≤ sizeLine := by decide
  have psz := pairsOf_size vs
  rw [list_sort_plain]
  refine wpAny_bind (listItems_at ho rfl (wpAny_bind (listUpdate_at ho rfl ?_)))
  obtain ⟨e1, o1⟩ : ∃ e1, (s.heap.update a (Obj.mapSeq fun _ => #[])).get? a = some (seqObj "list" #[] e1) := ⟨_, get?_update_seq ho (fun _ => #[])⟩
  refine wpAny_bind (seqEpoch_at o1 rfl (wpAny_bind (wpAny_newTuple (wpAny_bind (wpAny_newList (wpAny_holding ?_))))))
  obtain ⟨h6, e6⟩ : ∃ h6 : Heap, h6 = ((s.heap.update a (Obj.mapSeq fun _ => #[])).push (seqObj "tuple" vs.toArray 0)).push (seqObj "list" #[] 0) := ⟨_, rfl⟩
  have o6 : h6.get? a = some (seqObj "list" #[] e1) := by
    rw [e6]
    exact Heap.get?_push_of_some _ (Heap.get?_push_of_some _ o1)
  show wpAny (model P w) A _ Q E { s with heap := ((s.heap.update a (Obj.mapSeq fun _ => #[])).push (seqObj "tuple" vs.toArray 0)).push (seqObj "list" #[] 0) }
  rw [← e6]
  dsimp only
  have same : ∀ p ∈ (pairsOf vs).toList, p.1 = p.2 := fun p hp => by
    rw [pairsOf_toList] at hp
    exact (mem_zip_self hp).1
  have fin : ∀ st' : SortSt, (arrOf st').Perm (pairsOf vs) → Asc rk st' (pairsOf vs).size → Q (.done (.ret .none)) { s with heap := sortedHeap s.heap a vs ((arrOf st').map (·.2)) } := fun st' pm up => by
    have pl := Array.perm_iff_toList_perm.mp pm
    refine h _ ?_ fun i j u v hij hu hv => ?_
    · rw [Array.toList_map]
      refine (pl.map (·.2)).trans (List.Perm.of_eq ?_)
      rw [pairsOf_toList]
      exact List.map_snd_zip (Nat.le_refl _)
    · rw [Array.getElem?_map] at hu hv
      obtain ⟨p, hp, rfl⟩ := Option.map_eq_some_iff.mp hu
      obtain ⟨q, hq, rfl⟩ := Option.map_eq_some_iff.mp hv
      have li : i < (arrOf st').size := by
        rcases Nat.lt_or_ge i (arrOf st').size with z | z
        · exact z
        · rw [Array.getElem?_eq_none z] at hp; cases hp
      have lj : j < (arrOf st').size := by
        rcases Nat.lt_or_ge j (arrOf st').size with z | z
        · exact z
        · rw [Array.getElem?_eq_none z] at hq; cases hq
      have z := up i j hij (by rw [← pm.size_eq]; exact lj)
      rw [kA_at li, kA_at lj] at z
      rw [Array.getElem?_eq_getElem li] at hp
      rw [Array.getElem?_eq_getElem lj] at hq
      have m1 : p ∈ (pairsOf vs).toList := pl.mem_iff.mp (by rw [← Option.some.inj hp]; simp)
      have m2 : q ∈ (pairsOf vs).toList := pl.mem_iff.mp (by rw [← Option.some.inj hq]; simp)
      rw [← same p m1, ← same q m2, ← Option.some.inj hp, ← Option.some.inj hq]
      exact z
  by_cases h2 : vs.toArray.size < 2
  · rw [if_pos h2, if_pos h2]
    refine wpAny_bind (wpAny_pure ?_)
    rw [StateT.run_pure]
    refine wpAny_bind (wpAny_pure ?_)
    dsimp only
    refine wpAny_bind (seqEpoch_at o6 rfl ?_)
    refine wpAny_bind (listUpdate_at o6 rfl ?_ (hsz2 := by rw [Array.size_map]; show (pairsOf vs).size ≤ _; lia))
    simp only [bne_self_eq_false, Bool.false_eq_true, if_false]
    have z := fin (SortSt.mk' general' (vs.toArray.zip vs.toArray) #[] 7 none) (Array.Perm.refl _) (fun i j hij hj => by
      have : vs.toArray.size = vs.length := by simp
      rw [show i = j by lia]; exact Int.le_refl _)
    unfold sortedHeap at z
    rw [← e6] at z
    exact wpAny_pure z
  · rw [if_neg h2, if_neg h2]
    have hl2 : 2 ≤ vs.length := by have : vs.toArray.size = vs.length := by simp
                                   lia
    obtain ⟨hk1, hk2⟩ := hk hl2 h6 e6
    refine wpAny_bind (hk1 _ ?_)
    refine wpAny_bind (wpAny_mono (tb_all (base := pairsOf vs) (st := SortSt.mk' kd (vs.toArray.zip vs.toArray) #[] 7 none) (Q := fun _ st' => (arrOf st').Perm (pairsOf vs) ∧ failedOf st' = none ∧ Asc rk st' (pairsOf vs).size) hk2 ⟨Array.Perm.refl _, rfl, rfl, rfl⟩ (by lia) (by lia) fun st' a1 a2 a3 => ⟨a1, a2, a3⟩) ?_ fun _ _ e => e)
    rintro ⟨⟨⟩, st'⟩ s' ⟨rfl, pm, fl, up⟩
    dsimp only
    refine wpAny_bind (seqEpoch_at o6 rfl ?_)
    refine wpAny_bind (listUpdate_at o6 rfl ?_ (hsz2 := by rw [Array.size_map, pm.size_eq]; lia))
    rw [fl]
    simp only [bne_self_eq_false, Bool.false_eq_true, if_false]
    have z := fin st' pm up
    unfold sortedHeap at z
    rw [← e6] at z
    exact wpAny_pure z
end
end L2
set_option Elab.async false
set_option linter.all false
set_option maxRecDepth 100000
set_option maxHeartbeats 4000000
namespace L2
open PySem PySem.Spec PyProof.Rows
section
variable {P : Program} {w : World} {A : Around} {E : Value → Shared → Prop} {s : Shared}
theorem sorted_by {l : Addr} {vs : List Value} {kd : SortKind} {rk : Value → Int} {Q : Value → Shared → Prop} (hl : s.heap.IsList l vs.toArray) (h64 : vs.length < 64)
    (hk : 2 ≤ vs.length → ∀ h6 : Heap, (∀ b o, s.heap.get? b = some o → h6.get? b = some o) → (∀ (A' : Around) (E' : Value → Shared → Prop) (Q' : SortKind → Shared → Prop), Q' kd { s with heap := h6 } → wpAny (model P w) A' (keyKind' vs.toArray) Q' E' { s with heap := h6 }) ∧ ∀ A' : Around, LtBy P w A' { s with heap := h6 } rk kd (pairsOf vs))
    (h : ∀ out : Array Value, out.toList.Perm vs → (∀ (i j : Nat) (u v : Value), i ≤ j → out[i]? = some u → out[j]? = some v → rk u ≤ rk v) → Q (.ref (s.heap.objs.size + 1)) { s with heap := sortedAll s.heap vs out }) :
    wpAny (model P w) A (call (.builtin "sorted") [.ref l]) Q E s := by
  have h64' : (64 : Nat) ≤ sizeLine := by decide
  refine Calls.call_function_entry kind_sorted plain_sorted entry_sorted (args_sorted1 _) ?_
  unfold Builtin.«sorted»
  refine wpAny_bind (m := checkCount "sorted" 1 1 _) (wpAny_pure (wpAny_bind (collect_list hl ?_)))
  refine wpAny_bind (wpAny_newList ?_)
  obtain ⟨h1, e1⟩ : ∃ h1 : Heap, h1 = (s.heap.push (seqObj "list" #[] 0)).update s.heap.objs.size (Obj.mapSeq (· ++ vs.toArray)) := ⟨_, rfl⟩
  have sz : h1.objs.size = s.heap.objs.size + 1 := by rw [e1, Heap.size_update, size_push']
  have old : ∀ b o, s.heap.get? b = some o → h1.get? b = some o := fun b o e => by
    rw [e1, Heap.get?_update_ne _ _ _ _ (Nat.ne_of_lt (Heap.lt_size e))]
    exact Heap.get?_push_of_some _ e
  obtain ⟨h2, e2⟩ : ∃ h2 : Heap, h2 = h1.push (seqObj "list" vs.toArray 0) := ⟨_, rfl⟩
  have o2 : h2.get? (s.heap.objs.size + 1) = some (seqObj "list" vs.toArray 0) := by rw [e2, ← sz]; exact Heap.get?_push_size _ rfl
  show wpAny _ _ _ _ _ { s with heap := ((s.heap.push (seqObj "list" #[] 0)).update s.heap.objs.size (Obj.mapSeq (· ++ vs.toArray))).push (seqObj "list" vs.toArray 0) }
  rw [← e1, sz]
  have h' : ∀ out : Array Value, out.toList.Perm vs → (∀ (i j : Nat) (u v : Value), i ≤ j → out[i]? = some u → out[j]? = some v → rk u ≤ rk v) → Q (.ref (s.heap.objs.size + 1)) { s with heap := sortedHeap h2 (s.heap.objs.size + 1) vs out } := fun out p1 p2 => by
    have z := h out p1 p2
    unfold sortedAll at z
    rw [← e1, ← e2] at z
    exact z
  rw [← e2]
  refine wpAny_bind (wpAny_holding (wpAny_call_entry slot_list_sort ⟨_, o2, rfl⟩ entry_list_sort (sort_by (s := { s with heap := h2 }) (kd := kd) (rk := rk) o2 h64 (fun g2 h6 e6 => ?_) fun out p1 p2 => ⟨_, rfl, ?_⟩) (args_list_sort _)))
  · have keep : ∀ b o, s.heap.get? b = some o → h6.get? b = some o := fun b o e => by
      have lt := Heap.lt_size e
      rw [e6]
      refine Heap.get?_push_of_some _ (Heap.get?_push_of_some _ ?_)
      show (h2.update (s.heap.objs.size + 1) _).get? b = some o
      rw [Heap.get?_update_ne _ _ _ _ (Nat.ne_of_lt (Nat.lt_succ_of_lt lt)), e2]
      exact Heap.get?_push_of_some _ (old b o e)
    exact ⟨(hk g2 h6 keep).1 _ _, (hk g2 h6 keep).2 _⟩
  · exact wpAny_pure ⟨_, rfl, h' out p1 p2⟩
end
theorem perm_map_ex {α β : Type} (f : α → β) : ∀ {l m : List β}, l.Perm m → ∀ ts : List α, m = ts.map f → ∃ ts' : List α, l = ts'.map f ∧ ts'.Perm ts := by
  intro l m p
  induction p with
  | nil => intro ts e; exact ⟨ts, e, .refl _⟩
  | cons x p ih =>
    intro ts e
    match ts, e with
    | t :: r, e =>
      obtain ⟨r', e1, p1⟩ := ih r (List.cons.inj e).2
      exact ⟨t :: r', by rw [e1, (List.cons.inj e).1]; rfl, p1.cons t⟩
  | swap x y l =>
    intro ts e
    match ts, e with
    | t :: u :: r, e =>
      have e1 := (List.cons.inj e).1
      have e2 := (List.cons.inj (List.cons.inj e).2).1
      have e3 := (List.cons.inj (List.cons.inj e).2).2
      exact ⟨u :: t :: r, by rw [e1, e2, e3]; rfl, .swap t u r⟩
  | trans p1 p2 ih1 ih2 =>
    intro ts e
    obtain ⟨t2, e2, q2⟩ := ih2 ts e
    obtain ⟨t1, e1, q1⟩ := ih1 t2 e2
    exact ⟨t1, e1, q1.trans q2⟩
theorem vals_refs {ts : List (Addr × List V)} : ∀ {us : List Value}, Vals (ts.map fun t => V.ref t.1) us → us = ts.map fun t => Value.ref t.1 := by
  induction ts with
  | nil => intro us h; cases h; rfl
  | cons t r ih =>
    intro us h
    cases h with
    | cons rx t2 =>
      have e : _ = Value.ref t.1 := rx
      rw [e, ih t2]; rfl
theorem relV_uniq {x y : V} {u : Value} (h1 : RelV x u) (h2 : RelV y u) : x = y := by rw [← toV_of h1, ← toV_of h2]
theorem vals_uniq : ∀ {xs ys : List V} {us : List Value}, Vals xs us → Vals ys us → xs = ys
  | _, _, _, .nil, .nil => rfl
  | _, _, _, .cons r1 t1, .cons r2 t2 => by rw [relV_uniq r1 r2, vals_uniq t1 t2]
theorem refs_vals : ∀ ts : List (Addr × List V), Vals (ts.map fun t => V.ref t.1) (ts.map fun t => Value.ref t.1)
  | [] => .nil
  | t :: r => .cons rfl (refs_vals r)
section
variable {X : Cx}
def rSortedT (K : PySem.W.Frag) : List V → Hp → VK → Prop := fun xs H Q => ∃ (p : Addr) (ts : List (Addr × List V)), xs = [.ref p] ∧ SqL K H p (ts.map fun t => V.ref t.1) ∧ (∀ t ∈ ts, SqT K H t.1 t.2 ∧ ∃ x r, t.2 = V.str x :: r) ∧ (∀ t ∈ ts, ∀ t' ∈ ts, Paired SameT t.2 t'.2) ∧ ts.length < 64 ∧
  ∀ ts' : List (Addr × List V), ts'.Perm ts → ts'.Pairwise (fun a b => ¬ keyT b.2 < keyT a.2) → ∀ l, H l = none → Q (.ref l) (upd H l (.lst (ts'.map fun t => V.ref t.1)))
theorem call_sortedT : CallR X (.builtin "sorted") (rSortedT X.K) := by
  intro pins s σ H xs us Q I r h
  obtain ⟨p, ts, rfl, hx, htup, hsh, h64, q⟩ := h
  obtain ⟨u, rfl, ru⟩ := vals1 r
  cases ru
  have h64' : (64 : Nat) ≤ sizeLine := by decide
  obtain ⟨its, rv, ht, hz⟩ := I.list hx
  have ei := vals_refs rv
  subst ei
  let kf : Value → KyT := fun v => match v with
    | .ref a => match ts.find? (fun t => t.1 == a) with
      | some t => keyT t.2
      | none => []
    | _ => []
  have kfa : ∀ t ∈ ts, kf (.ref t.1) = keyT t.2 := fun t hm => by
    show (match ts.find? (fun t' => t'.1 == t.1) with | some t => keyT t.2 | none => []) = _
    cases e : ts.find? (fun t' => t'.1 == t.1) with
    | none => exact absurd (List.find?_eq_none.mp e t hm) (by simp)
    | some t' =>
      have e1 : t'.1 = t.1 := by simpa using List.find?_some e
      have m' := List.mem_of_find?_eq_some e
      have z := (htup t' m').1
      rw [e1] at z
      show keyT t'.2 = keyT t.2
      rw [I.tuple_inj z (htup t hm).1]
  have key : ∀ h6 : Heap, (∀ b o, s.heap.get? b = some o → h6.get? b = some o) → ∀ v ∈ ts.map (fun t => Value.ref t.1), ∃ (t : Addr × List V) (us : List Value), t ∈ ts ∧ v = .ref t.1 ∧ h6.IsTuple t.1 us.toArray ∧ Vals t.2 us := fun h6 keep v hv => by
    obtain ⟨t, hm, rfl⟩ := List.mem_map.mp hv
    obtain ⟨us, r1, p1, z1⟩ := I.tuple (htup t hm).1
    obtain ⟨o, e, hc, n, d⟩ := (show s.heap.IsTuple t.1 us.toArray from p1)
    exact ⟨t, us, hm, rfl, ⟨o, keep _ _ e, hc, n, d⟩, r1⟩
  have tinj : ∀ (h6 : Heap) (a : Addr) (us vs : List Value), h6.IsTuple a us.toArray → h6.IsTuple a vs.toArray → us = vs := fun h6 a us vs h1 h2 => by
    obtain ⟨o, e, hc, n, d⟩ := h1
    obtain ⟨o', e', hc', n', d'⟩ := h2
    rw [e] at e'
    cases e'
    rw [d] at d'
    cases d'
    rfl
  refine sorted_by (s := s) (kd := tuples' true) (rk := fun v => rkT ((ts.map fun t => Value.ref t.1).map kf) (kf v)) ht.isList (by rw [List.length_map]; exact h64) (fun h2 h6 keep => ⟨fun A' E' Q' q' => kind_wp (s := { s with heap := h6 }) (by intro z; rw [z] at h2; exact absurd h2 (by decide)) (fun v hv => ?_) q', fun A' => ltBy_of (s := { s with heap := h6 }) (fun v hv => ⟨?_⟩) (fun v hv u hu a b us vs ys zs ea eb i1 i2 v1 v2 => ?_)⟩) fun out pm up => ?_
  · obtain ⟨t, us, hm, rfl, i1, v1⟩ := key h6 keep v hv
    obtain ⟨x, r, e⟩ := (htup t hm).2
    rw [e] at v1
    cases v1 with
    | cons rx t2 =>
      obtain ⟨tk, rfl⟩ := (show ∃ tk, _ = Value.str x tk from rx)
      exact ⟨t.1, _, x, tk, rfl, i1, rfl⟩
  · obtain ⟨t, us, hm, rfl, i1, v1⟩ := key h6 keep v hv
    obtain ⟨x, r, e⟩ := (htup t hm).2
    exact ⟨t.1, us, t.2, x, r, rfl, i1, v1, e, kfa t hm⟩
  · obtain ⟨t, us1, hm, e1, j1, w1⟩ := key h6 keep v hv
    obtain ⟨t', us2, hm', e2, j2, w2⟩ := key h6 keep u hu
    rw [ea] at e1
    rw [eb] at e2
    cases e1
    cases e2
    have q1 := tinj h6 _ _ _ i1 j1
    have q2 := tinj h6 _ _ _ i2 j2
    subst q1 q2
    have x1 : ys = t.2 := by exact vals_uniq v1 w1
    have x2 : zs = t'.2 := by exact vals_uniq v2 w2
    rw [x1, x2]
    exact hsh t hm t' hm'
  · obtain ⟨ts', e', p'⟩ := perm_map_ex (fun t : Addr × List V => Value.ref t.1) pm ts rfl
    obtain ⟨e, he⟩ := sortedAll_at s.heap (ts.map fun t => Value.ref t.1) out
    have hl' := p'.length_eq
    refine ⟨.ref (s.heap.objs.size + 1), _, I.newL (tk := s.toks) (fun _ _ => sortedAll_old) (Nat.le_succ _) he (by rw [e']; exact refs_vals ts') (by rw [List.length_map]; lia), rfl, q ts' p' ?_ _ (I.hok.fresh (Nat.le_succ _))⟩
    refine List.pairwise_iff_getElem.mpr fun i j hi hj hij => ?_
    have g : ∀ (k : Nat) (hk : k < ts'.length), out[k]? = some (Value.ref ts'[k].1) := fun k hk => by
      rw [← Array.getElem?_toList, e', List.getElem?_map, List.getElem?_eq_getElem hk]; rfl
    have z := up i j _ _ (Nat.le_of_lt hij) (g i hi) (g j hj)
    have mi : ts'[i] ∈ ts := p'.mem_iff.mp (List.getElem_mem hi)
    have mj : ts'[j] ∈ ts := p'.mem_iff.mp (List.getElem_mem hj)
    have z2 := rk_le (List.mem_map.mpr ⟨_, List.mem_map.mpr ⟨_, mj, rfl⟩, rfl⟩) z
    rw [kfa _ mi, kfa _ mj] at z2
    exact z2
end
end L2
set_option Elab.async false
set_option linter.all false
set_option maxRecDepth 100000
set_option maxHeartbeats 4000000
namespace L2
open PySem PySem.Spec PyProof.Rows
abbrev Lk := Str × Bool × Bool
def tkV (c : Lk) : List V := [.str c.1, .bl c.2.1, .bl c.2.2]
def LksAt (K : PySem.W.Frag) (H : Hp) (xs : List V) (cs : List Lk) : Prop := Paired (fun v c => ∃ t, v = V.ref t ∧ SqT K H t (tkV c)) xs cs
structure LkV (K : PySem.W.Frag) (H : Hp) (u : V) (kd : Str) (cs : List Lk) : Prop where
  ex : ∃ (a l : Addr) (xs : List V), u = .ref a ∧ SqT K H a [.str kd, .ref l] ∧ SqL K H l xs ∧ LksAt K H xs cs
section
variable {X : Cx} {pins : List (Addr × Obj)} {σ : St} {H : Hp} {s : Shared}
end
section
variable {X : Cx}
theorem kSortedT (K : PySem.W.Frag) (h : X.K = K := by rfl) : CallR X (.builtin "sorted") (rSortedT K) := h ▸ call_sortedT
end
end L2
set_option Elab.async false
set_option linter.all false
set_option maxRecDepth 100000
set_option maxHeartbeats 4000000
namespace L2
open PySem PySem.Spec PyProof.Rows
open PySem.AutoSeq1 (wpAny_loadPart')
open PySem.MeetsSeq PySem.MeetsSeq2 PySem.MeetsSeq3
section
variable {P : Program} {w : World}
end
section
variable {X : Cx}
theorem mt_list_extend1 {X : Cx} : MtM X "list.extend" rExtend := mt_extend
end
end L2
set_option Elab.async false
set_option linter.all false
set_option maxRecDepth 100000
set_option maxHeartbeats 4000000
namespace L2
open PySem PySem.Spec PyProof.Rows
structure FnIn (K : PySem.W.Frag) (n : Str) (st : Stmt) (f : Addr) : Prop where
  a : PySem.W.nsIn K mainGlobals n = some (some (.ref f))
  F : ∃ fd, Fun K n n st f fd
theorem FnIn.mk' {K : PySem.W.Frag} {n : Str} {st : Stmt} {f : Addr} {oc : Value} {od an : Option Addr} {osl : Array (Option Value)} {kV doc pm cdv ct : Value} (a : PySem.W.nsIn K mainGlobals n = some (some (.ref f))) (l : K.lookup f = some ⟨oc, od, .func (PySem.W.fnOf n n (defArgs st) (defBody st) (defScope st) .none kV doc pm an cdv ct), osl⟩)
    (c : PySem.W.codeIn K cdv n = true) (k : PySem.W.keepIn K (.ref f) = true) : FnIn K n st f := ⟨a, _, fun_mk l c k⟩
theorem cal_mk {P : Program} {w : World} {K : PySem.W.Frag} {mg : Str → Option Value} {base h : Heap} {CX : CXT} {k : Nat} {n : Str} {st : Stmt} {ps : List Str} {sp : Sp} {f : Addr} (X : K.In h) (G : h.Ns mainGlobals mg) (a : FnIn K n st f) (ok : ∀ {f fd}, Fun K n n st f fd → FnOk P w K mg base CX k f fd ps sp)
    (b : ∀ (kV doc pm : Value) (an : Option Addr) (cdv ct : Value) (us : List Value), us.length = ps.length → bindArgs (PySem.W.fnOf n n (defArgs st) (defBody st) (defScope st) .none kV doc pm an cdv ct) ⟨us, []⟩ = pure (ps.zip us)) : Cal P w K mg base CX k n ps [] sp := by
  obtain ⟨fd, F⟩ := a.F
  exact ⟨f, _, [], ok F, PySem.W.mg_of X G a.a, F.kp, F.binds b, .nil⟩
theorem law_mk {P : Program} {w : World} {K : PySem.W.Frag} {mg : Str → Option Value} {h : Heap} {CX : CXT} {k : Nat} {st : Stmt} {p : Str} {sp : Sp} {f fa : Addr} (X : K.In h) (G : h.Ns mainGlobals mg) (hfa : mg "law" = some (.ref fa)) (a : FnIn K "law" st f) (ok : ∀ {base f fd}, Fun K "law" "law" st f fd → FnOk P w K mg base CX k f fd [p] sp)
    (b : ∀ (kV doc pm : Value) (an : Option Addr) (cdv ct : Value) (s : Shared) (v : Value), BindsTo s (PySem.W.fnOf "law" "law" (defArgs st) (defBody st) (defScope st) .none kV doc pm an cdv ct) ⟨[v], []⟩ [(p, v)]) :
    ∃ fd : FuncData, (∀ (s : Shared) (v : Value), BindsTo s fd ⟨[v], []⟩ [(p, v)]) ∧ ∀ base : Heap, K.In base → base.Ns mainGlobals mg → FnOk P w K mg base CX k fa fd [p] sp := by
  obtain ⟨fd, F⟩ := a.F
  have e := hfa.symm.trans (PySem.W.mg_of X G a.a)
  cases e
  obtain ⟨oc, od, kV, doc, pm, an, cdv, ct, osl, rfl, lk, hcd⟩ := id F.ex
  exact ⟨_, fun s v => b _ _ _ _ _ _ s v, fun base _ _ => ok F⟩
section
variable {fd : FuncData} {ps : List Str} {us : List Value}
theorem uc {us : List Value} {n : Nat} (h : us.length = n + 1) : ∃ a r, us = a :: r ∧ r.length = n := by
  cases us with
  | nil => cases h
  | cons a r => exact ⟨a, r, rfl, Nat.succ.inj h⟩
theorem bn1 (h : us.length = 1) (g : ∀ a : Value, bindArgs fd ⟨[a], []⟩ = pure (ps.zip [a])) : bindArgs fd ⟨us, []⟩ = pure (ps.zip us) := by
  obtain ⟨a, us, rfl, h1⟩ := uc h; cases us with
  | nil => exact g a
  | cons _ _ => cases h1
theorem bn2 (h : us.length = 2) (g : ∀ a b : Value, bindArgs fd ⟨[a, b], []⟩ = pure (ps.zip [a, b])) : bindArgs fd ⟨us, []⟩ = pure (ps.zip us) := by
  obtain ⟨a, us, rfl, h1⟩ := uc h; obtain ⟨b, us, rfl, h2⟩ := uc h1; cases us with
  | nil => exact g a b
  | cons _ _ => cases h2
theorem bn3 (h : us.length = 3) (g : ∀ a b c : Value, bindArgs fd ⟨[a, b, c], []⟩ = pure (ps.zip [a, b, c])) : bindArgs fd ⟨us, []⟩ = pure (ps.zip us) := by
  obtain ⟨a, us, rfl, h1⟩ := uc h; obtain ⟨b, us, rfl, h2⟩ := uc h1; obtain ⟨c, us, rfl, h3⟩ := uc h2; cases us with
  | nil => exact g a b c
  | cons _ _ => cases h3
theorem bn4 (h : us.length = 4) (g : ∀ a b c d : Value, bindArgs fd ⟨[a, b, c, d], []⟩ = pure (ps.zip [a, b, c, d])) : bindArgs fd ⟨us, []⟩ = pure (ps.zip us) := by
  obtain ⟨a, us, rfl, h1⟩ := uc h; obtain ⟨b, us, rfl, h2⟩ := uc h1; obtain ⟨c, us, rfl, h3⟩ := uc h2; obtain ⟨d, us, rfl, h4⟩ := uc h3; cases us with
  | nil => exact g a b c d
  | cons _ _ => cases h4
theorem bn5 (h : us.length = 5) (g : ∀ a b c d e : Value, bindArgs fd ⟨[a, b, c, d, e], []⟩ = pure (ps.zip [a, b, c, d, e])) : bindArgs fd ⟨us, []⟩ = pure (ps.zip us) := by
  obtain ⟨a, us, rfl, h1⟩ := uc h; obtain ⟨b, us, rfl, h2⟩ := uc h1; obtain ⟨c, us, rfl, h3⟩ := uc h2; obtain ⟨d, us, rfl, h4⟩ := uc h3; obtain ⟨e, us, rfl, h5⟩ := uc h4; cases us with
  | nil => exact g a b c d e
  | cons _ _ => cases h5
end
section
variable {J : It} {th : Hp → Hp} {g : V → St → Hp → (St → Hp → Prop) → Prop} {tb : TS} {nx : St → Hp → Prop} {rt : V → Hp → Prop} {σ : St} {H : Hp} {n : Nat}
end
end L2
set_option Elab.async false
set_option linter.all false
set_option maxRecDepth 100000
set_option maxHeartbeats 4000000
namespace L2
open PySem PySem.Spec PyProof.Rows
section
variable {X : Cx} {x : Str} {T : Addr} {np hpos pos : Pos} {b₀ : Stmt} {body suite : List Stmt} {tb : (St → XK) → TS} {ts : TS}
end
section
variable {X : Cx} {e : Expr} {te : TE} {pos p2 p3 p4 : Pos} {j : Nat}
end
section
variable {X : Cx} {pins : List (Addr × Obj)} {σ : St} {H : Hp} {s : Shared} {h' : Heap}
end
section
variable {X : Cx}
end
section
variable {K : PySem.W.Frag} {H : Hp} {Q : VK}
end
end L2
set_option Elab.async false
set_option linter.all false
set_option maxRecDepth 100000
set_option maxHeartbeats 4000000
namespace L2
open PySem PySem.Spec PyProof.Rows
structure TQ (kd : SortKind) (base : Array Keyed) (lo : Nat) (pre : Array Keyed) (pe : Array (Nat × Nat × Nat)) (st : SortSt) : Prop where
  pm : (arrOf st).Perm base
  kd : kindOf st = kd
  fl : failedOf st = none
  pe : pendingOf st = pe
  fr : ∀ p, p < lo → (arrOf st)[p]? = pre[p]?
section
variable {prog : Program} {w : World} {A : Around} {E : Value → Shared → Prop} {s : Shared} {rk : Value → Int} {kd : SortKind} {base : Array Keyed} {st : SortSt} {lo : Nat} {pre : Array Keyed} {pe : Array (Nat × Nat × Nat)}
theorem TQ.sz (h : TQ kd base lo pre pe st) : (arrOf st).size = base.size := h.pm.size_eq
theorem TQ.rev (h : TQ kd base lo pre pe st) {i j : Nat} (hi : lo ≤ i) (hj : j ≤ base.size) : TQ kd base lo pre pe (setArr st (mirror (arrOf st) i j ((j - i) / 2))) :=
  ⟨(mirror_perm _ _ _ _).trans h.pm, h.kd, h.fl, h.pe, fun p hp => by
    show (mirror (arrOf st) i j ((j - i) / 2))[p]? = _
    rw [getElem?_mirror_all (by rw [h.sz]; exact hj), if_neg (by lia)]; exact h.fr p hp⟩
theorem TQ.mov (h : TQ kd base lo pre pe st) {c d : Nat} (hc : c < base.size) (hd : lo + d ≤ c) : TQ kd base lo pre pe (setArr st (bubble (arrOf st) c d)) :=
  ⟨(bubble_perm _ _ _).trans h.pm, h.kd, h.fl, h.pe, fun p hp => by
    show (bubble (arrOf st) c d)[p]? = _
    rw [getElem?_bubble (by rw [h.sz]; exact hc) d (by lia), if_neg (by lia), if_neg (by lia)]; exact h.fr p hp⟩
theorem tk_lt (hL : LtBy prog w A s rk kd base) (hk : kindOf st = kd) {x y : Keyed} {Q : Option Bool → SortSt → Prop} (hx : x ∈ base.toList) (hy : y ∈ base.toList) (h : Q (some (decide (rk x.1 < rk y.1))) st) : wpS (model prog w) A E s (lt' x y) Q st := by
  rw [lt'_eq]
  refine wpS_bind (wpS_get ?_)
  rw [hk]
  exact wpS_bind (wpS_lift (wpAny_attempt (hL _ _ _ _ ⟨x, hx, rfl⟩ ⟨y, hy, rfl⟩ ⟨rfl, wpS_pure h⟩)))
theorem tk_el {arr : Array Keyed} {i : Nat} {Q : Keyed → SortSt → Prop} (hi : i < arr.size) (h : Q arr[i] st) : wpS (model prog w) A E s (elem' arr i) Q st := by
  rw [elem'_eq, Array.getElem?_eq_getElem hi]
  exact wpS_pure h
theorem TQ.lt (hL : LtBy prog w A s rk kd base) (hB : TQ kd base lo pre pe st) {i j : Nat} {Q : Option Bool → SortSt → Prop} (hi : i < base.size) (hj : j < base.size) (h : Q (some (decide (kA rk st i < kA rk st j))) st) : wpS (model prog w) A E s (ltAt' i j) Q st := by
  have z := hB.sz
  have hi' : i < (arrOf st).size := by lia
  have hj' : j < (arrOf st).size := by lia
  have mem : ∀ k (hk : k < (arrOf st).size), (arrOf st)[k] ∈ base.toList := fun k hk => (Array.perm_iff_toList_perm.mp hB.pm).mem_iff.mp (by simp)
  rw [kA_at hi', kA_at hj'] at h
  rw [ltAt'_eq]
  refine wpS_bind (wpS_get ?_)
  exact wpS_bind (tk_el hi' (wpS_bind (tk_el hj' (tk_lt hL hB.kd (mem i hi') (mem j hj') h))))
def AO (rk : Value → Int) (st : SortSt) (lo n : Nat) : Prop := ∀ i j, i ≤ j → j < n → kA rk st (lo + i) ≤ kA rk st (lo + j)
def DO (rk : Value → Int) (st : SortSt) (lo n : Nat) : Prop := ∀ i j, i ≤ j → j < n → kA rk st (lo + j) ≤ kA rk st (lo + i)
theorem AO.one : AO rk st lo 1 := fun i j h1 h2 => by
  rw [show i = j by lia]; exact Int.le_refl _
theorem AO.next {n : Nat} (h : AO rk st lo n) (h1 : 1 ≤ n) (hx : ¬ kA rk st (lo + n) < kA rk st (lo + n - 1)) : AO rk st lo (n + 1) := fun i j hij hj => by
  rcases Nat.lt_or_ge j n with z | z
  · exact h i j hij z
  · have e : j = n := by lia
    subst e
    rcases Nat.lt_or_ge i j with y | y
    · have := h i (j - 1) (by lia) (by lia)
      rw [show lo + (j - 1) = lo + j - 1 by lia] at this
      lia
    · rw [show i = j by lia]; exact Int.le_refl _
theorem DO.next {st2 : SortSt} {n : Nat} (h : DO rk st lo n) (h1 : 1 ≤ n) (hx : kA rk st (lo + n) ≤ kA rk st (lo + n - 1)) (e : ∀ k, kA rk st2 k = kA rk st k) : DO rk st2 lo (n + 1) := fun i j hij hj => by
  rw [e, e]
  rcases Nat.lt_or_ge j n with z | z
  · exact h i j hij z
  · have e : j = n := by lia
    subst e
    rcases Nat.lt_or_ge i j with y | y
    · have := h i (j - 1) (by lia) (by lia)
      rw [show lo + (j - 1) = lo + j - 1 by lia] at this
      lia
    · rw [show i = j by lia]; exact Int.le_refl _
theorem wp_join {α : Type} {J X : StateT SortSt Sem α} {P : SortSt → Prop} {Q : α → SortSt → Prop} (h1 : (∀ st', P st' → wpS (model prog w) A E s J Q st') → wpS (model prog w) A E s X Q st) (h2 : ∀ st', P st' → wpS (model prog w) A E s J Q st') : wpS (model prog w) A E s X Q st := h1 h2
theorem to_run (hL : LtBy prog w A s rk kd base) (hB : TQ kd base lo pre pe st) {n : Nat} {Q : Option Nat → SortSt → Prop} (h1 : 1 ≤ n) (hn : lo + n ≤ base.size)
    (h : ∀ k st', TQ kd base lo pre pe st' → 1 ≤ k → k ≤ n → AO rk st' lo k → Q (some k) st') : wpS (model prog w) A E s (countRun' lo n) Q st := by
  have asc : ∀ (st : SortSt) (a : Nat), TQ kd base lo pre pe st → 1 ≤ a → a ≤ n → AO rk st lo a → ∀ (Q' : Option (Option Nat) × Nat → SortSt → Prop), (∀ m, a ≤ m → m ≤ n → AO rk st lo m → (m = n ∨ kA rk st (lo + m) < kA rk st (lo + m - 1)) → Q' (none, m) st) → wpS (model prog w) A E s (forIn [a:n] ((none : Option (Option Nat)), a) fun _ r => do
      let x ← ltAt' (lo + r.2) (lo + r.2 - 1)
      match x with
      | some smaller => if smaller = true then pure (ForInStep.done (none, r.2)) else pure (ForInStep.yield (none, r.2 + 1))
      | _ => pure (ForInStep.done (some none, r.2))) Q' st := fun st a hB ha han hs Q' kk => by
    refine wpS_forRange (I := fun k c z => z = st ∧ c = (none, k) ∧ AO rk st lo k) (fun k c z h1 h2 h3 => ?_) (fun c z h3 => ?_) ⟨rfl, rfl, hs⟩
    · obtain ⟨rfl, rfl, h4⟩ := h3
      dsimp only
      refine wpS_bind (hB.lt hL (by lia) (by lia) ?_)
      by_cases e : kA rk z (lo + k) < kA rk z (lo + k - 1)
      · rw [decide_eq_true e]
        exact wpS_pure (kk k h1 (by lia) h4 (.inr e))
      · rw [decide_eq_false e]
        exact wpS_pure ⟨rfl, rfl, h4.next (by lia) e⟩
    · obtain ⟨rfl, rfl, h4⟩ := h3
      have e : max a n = n := by lia
      rw [e] at h4 ⊢
      exact kk n han (Nat.le_refl _) h4 (.inl rfl)
  rw [countRun'_eq]
  refine wpS_bind (asc st 1 hB (Nat.le_refl 1) h1 AO.one _ fun m m1 m2 hs hor => ?_)
  dsimp only
  by_cases e : m = n
  · rw [if_pos (by simpa using e)]
    exact wpS_pure (h m st hB m1 m2 hs)
  · rw [if_neg (by simpa using e)]
    have hlt := hor.resolve_left e
    refine' wp_join (P := fun st' => TQ kd base lo pre pe st' ∧ DO rk st' lo (m + 1)) (fun hj => _) (fun st' hp => _)
    rotate_left
    · by_cases hg : m > 1
      · rw [if_pos hg]
        refine wpS_bind (hB.lt hL (by lia) (by lia) ?_)
        by_cases r : kA rk st lo < kA rk st (lo + m - 1)
        · rw [decide_eq_true r]
          exact wpS_pure (h m st hB m1 m2 hs)
        · rw [decide_eq_false r]
          have hz : lo + m ≤ (arrOf st).size := by rw [hB.sz]; lia
          have all : ∀ k, lo ≤ k → k < lo + m → kA rk st k = kA rk st (lo + m - 1) := fun k k1 k2 => by
            have c1 := hs 0 (k - lo) (by lia) (by lia)
            have c2 := hs (k - lo) (m - 1) (by lia) (by lia)
            rw [show lo + (k - lo) = k by lia, Nat.add_zero] at c1
            rw [show lo + (k - lo) = k by lia, show lo + (m - 1) = lo + m - 1 by lia] at c2
            lia
          dsimp only
          rw [if_neg (by decide)]
          refine wpS_bind (wpS_reverse (hj _ ⟨hB.rev (Nat.le_refl _) (by lia), ?_⟩))
          refine DO.next (st := st) (fun i j hij hj => ?_) (by lia) (Int.le_of_lt hlt) (kA_flat hz all)
          rw [all (lo + i) (by lia) (by lia), all (lo + j) (by lia) (by lia)]; exact Int.le_refl _
      · rw [if_neg hg]
        have e1 : m = 1 := by lia
        subst e1
        refine hj _ ⟨hB, DO.next (st := st) (fun i j hij hj => ?_) (Nat.le_refl 1) (Int.le_of_lt hlt) fun _ => rfl⟩
        rw [show i = j by lia]; exact Int.le_refl _
    · obtain ⟨hB', hD⟩ := hp
      have tail : ∀ (k : Nat) (st : SortSt), TQ kd base lo pre pe st → 1 ≤ k → k ≤ n → DO rk st lo k → TQ kd base lo pre pe (setArr st (mirror (arrOf st) lo (lo + k) ((lo + k - lo) / 2))) ∧ AO rk (setArr st (mirror (arrOf st) lo (lo + k) ((lo + k - lo) / 2))) lo k := fun k st hB k1 k2 hD => by
        have hz : lo + k ≤ (arrOf st).size := by rw [hB.sz]; lia
        refine ⟨hB.rev (Nat.le_refl _) (by lia), fun i j hij hj => ?_⟩
        rw [kA_rev hz, kA_rev hz, if_pos ⟨by lia, by lia⟩, if_pos ⟨by lia, by lia⟩]
        have z := hD (k - 1 - j) (k - 1 - i) (by lia) (by lia)
        rw [show lo + (k - 1 - i) = lo + (lo + k) - 1 - (lo + i) by lia, show lo + (k - 1 - j) = lo + (lo + k) - 1 - (lo + j) by lia] at z
        exact z
      refine wpS_bind (wpS_lift (wpAny_rule ⟨rfl, ?_⟩))
      refine wpS_bind (wpS_mono (wpS_forRange (I := fun k c z => ∃ q, c = (none, k, q) ∧ TQ kd base lo pre pe z ∧ DO rk z lo k ∧ q + 1 ≤ k ∧ ∀ i, lo + k - (q + 1) ≤ i → i < lo + k → kA rk z i = kA rk z (lo + k - 1)) (Q := fun c z => ∃ k q, m + 1 ≤ k ∧ k ≤ n ∧ c = (none, k, q) ∧ TQ kd base lo pre pe z ∧ DO rk z lo k ∧ q + 1 ≤ k ∧ ∀ i, lo + k - (q + 1) ≤ i → i < lo + k → kA rk z i = kA rk z (lo + k - 1)) (fun k c z a1 a2 a3 => ?_) (fun c z a3 => ?_) ⟨0, rfl, hB', hD, by lia, fun i b1 b2 => by rw [show i = lo + (m + 1) - 1 by lia]⟩) fun c z a3 => ?_)
      · obtain ⟨q, rfl, b1, b2, b3, b4⟩ := a3
        dsimp only
        have hz : lo + k ≤ (arrOf z).size := by rw [b1.sz]; lia
        have one : ∀ z' : SortSt, ∀ i, lo + (k + 1) - (0 + 1) ≤ i → i < lo + (k + 1) → kA rk z' i = kA rk z' (lo + (k + 1) - 1) := fun z' i c1 c2 => by rw [show i = lo + (k + 1) - 1 by lia]
        refine wpS_bind (b1.lt hL (by lia) (by lia) ?_)
        by_cases e : kA rk z (lo + k) < kA rk z (lo + k - 1)
        · rw [decide_eq_true e]
          dsimp only
          rw [if_pos rfl]
          by_cases hq : q > 0
          · rw [if_pos hq]
            exact wpS_bind (wpS_reverse (wpS_pure ⟨0, rfl, b1.rev (by lia) (by lia), b2.next (by lia) (Int.le_of_lt e) (kA_flat hz b4), by lia, one _⟩))
          · rw [if_neg hq]
            exact wpS_pure ⟨0, rfl, b1, b2.next (by lia) (Int.le_of_lt e) (fun _ => rfl), by lia, one _⟩
        · rw [decide_eq_false e]
          dsimp only
          rw [if_neg (by decide)]
          refine wpS_bind (b1.lt hL (by lia) (by lia) ?_)
          by_cases e2 : kA rk z (lo + k - 1) < kA rk z (lo + k)
          · rw [decide_eq_true e2]
            exact wpS_pure ⟨k, q, a1, by lia, rfl, b1, b2, b3, b4⟩
          · rw [decide_eq_false e2]
            have e3 : kA rk z (lo + k) = kA rk z (lo + k - 1) := by lia
            refine wpS_pure ⟨q + 1, rfl, b1, b2.next (by lia) (by lia) (fun _ => rfl), by lia, fun i c1 c2 => ?_⟩
            rw [show lo + (k + 1) - 1 = lo + k by lia]
            rcases Nat.lt_or_ge i (lo + k) with y | y
            · rw [e3]; exact b4 i (by lia) y
            · rw [show i = lo + k by lia]
      · obtain ⟨q, rfl, b1, b2, b3, b4⟩ := a3
        have e : max (m + 1) n = n := by lia
        rw [e] at b2 b3 b4 ⊢
        exact ⟨n, q, by lia, Nat.le_refl _, rfl, b1, b2, b3, b4⟩
      · obtain ⟨k, q, k1, k2, rfl, b1, b2, b3, b4⟩ := a3
        dsimp only
        by_cases hq : q > 0
        · rw [if_pos hq]
          have hz : lo + k ≤ (arrOf z).size := by rw [b1.sz]; lia
          refine wpS_bind (wpS_reverse ?_)
          have t := tail k _ (b1.rev (i := lo + k - (q + 1)) (j := lo + k) (by lia) (by lia)) (by lia) k2 (fun i j hij hj => by
            rw [kA_flat hz b4, kA_flat hz b4]
            exact b2 i j hij hj)
          refine wpS_bind (wpS_reverse (wpS_bind (asc _ k t.1 (by lia) k2 t.2 _ fun m' m1' m2' hs' _ => wpS_pure (h m' _ t.1 (by lia) m2' hs'))))
        · rw [if_neg hq]
          have t := tail k z b1 (by lia) k2 b2
          refine wpS_bind (wpS_reverse (wpS_bind (asc _ k t.1 (by lia) k2 t.2 _ fun m' m1' m2' hs' _ => wpS_pure (h m' _ t.1 (by lia) m2' hs'))))
theorem to_bin (hL : LtBy prog w A s rk kd base) (hB : TQ kd base lo pre pe st) {n ok : Nat} {Q : Bool → SortSt → Prop} (hn : lo + n ≤ base.size) (hok : ok ≤ n) (hs : AO rk st lo ok)
    (h : ∀ st', TQ kd base lo pre pe st' → AO rk st' lo n → Q true st') : wpS (model prog w) A E s (binarySort' lo n ok) Q st := by
  rw [binarySort'_eq]
  refine wpS_bind (wpS_mono (wpS_forRange (I := fun k c z => c = (none, ()) ∧ TQ kd base lo pre pe z ∧ AO rk z lo (min k n)) (Q := fun c z => c = (none, ()) ∧ TQ kd base lo pre pe z ∧ AO rk z lo n) (fun k c z a1 a2 a3 => ?_) (fun c z a3 => ?_) ⟨rfl, hB, fun i j hij hj => ?_⟩) fun c z a3 => ?_)
  · obtain ⟨rfl, b1, b2⟩ := a3
    rw [show min k n = k by lia] at b2
    refine wpS_bind (wpS_mono (wpS_forRange (I := fun x c y => y = z ∧ ∃ l r, c = (none, l, r) ∧ l ≤ r ∧ r ≤ k ∧ r - l ≤ k - x ∧ (∀ i, i < l → kA rk z (lo + i) ≤ kA rk z (lo + k)) ∧ (∀ i, r ≤ i → i < k → kA rk z (lo + k) < kA rk z (lo + i)))
      (Q := fun c y => y = z ∧ ∃ l r, c = (none, l, r) ∧ l ≤ k ∧ (∀ i, i < l → kA rk z (lo + i) ≤ kA rk z (lo + k)) ∧ (∀ i, l ≤ i → i < k → kA rk z (lo + k) < kA rk z (lo + i))) (fun x c y c1 c2 c3 => ?_) (fun c y c3 => ?_) ⟨rfl, 0, k, rfl, Nat.zero_le _, Nat.le_refl _, by lia, fun i q => absurd q (by lia), fun i q1 q2 => absurd q2 (by lia)⟩) fun c y c3 => ?_)
    · obtain ⟨rfl, l, r, rfl, d1, d2, d3, d4, d5⟩ := c3
      dsimp only
      by_cases g : l ≥ r
      · rw [if_pos g]
        have e : l = r := by lia
        subst e
        exact wpS_pure ⟨rfl, l, l, rfl, d2, d4, d5⟩
      · rw [if_neg g]
        refine wpS_bind (b1.lt hL (by lia) (by lia) ?_)
        by_cases e : kA rk y (lo + k) < kA rk y (lo + (l + r) / 2)
        · rw [decide_eq_true e]
          refine wpS_pure ⟨rfl, l, (l + r) / 2, rfl, by lia, by lia, by lia, d4, fun i q1 q2 => ?_⟩
          have := b2 ((l + r) / 2) i q1 q2
          lia
        · rw [decide_eq_false e]
          refine wpS_pure ⟨rfl, (l + r) / 2 + 1, r, rfl, by lia, by lia, by lia, fun i q1 => ?_, d5⟩
          have := b2 i ((l + r) / 2) (by lia) (by lia)
          lia
    · obtain ⟨rfl, l, r, rfl, d1, d2, d3, d4, d5⟩ := c3
      have e : l = r := by lia
      subst e
      exact ⟨rfl, l, l, rfl, d2, d4, d5⟩
    · obtain ⟨rfl, l, r, rfl, d1, d4, d5⟩ := c3
      show wpS _ _ _ _ (do moveDown' (lo + k) (lo + l); pure (ForInStep.yield (none, ()))) _ y
      rw [moveDown'_eq]
      refine wpS_bind (wpS_modify (wpS_pure ⟨rfl, b1.mov (by lia) (by lia), fun i j hij hj => ?_⟩))
      have hk : lo + k < (arrOf y).size := by rw [b1.sz]; lia
      rw [kA_mov hk (by lia), kA_mov hk (by lia), show lo + k - (lo + k - (lo + l)) = lo + l by lia]
      by_cases i1 : i = l
      · rw [if_pos (by lia)]
        by_cases j1 : j = l
        · rw [if_pos (by lia)]; exact Int.le_refl _
        · rw [if_neg (by lia), if_pos ⟨by lia, by lia⟩]
          have z := d5 (j - 1) (by lia) (by lia)
          rw [show lo + (j - 1) = lo + j - 1 by lia] at z
          exact Int.le_of_lt z
      · rw [if_neg (by lia)]
        by_cases i2 : l < i ∧ i ≤ k
        · rw [if_pos ⟨by lia, by lia⟩, if_neg (by lia), if_pos ⟨by lia, by lia⟩]
          have z := b2 (i - 1) (j - 1) (by lia) (by lia)
          rw [show lo + (i - 1) = lo + i - 1 by lia, show lo + (j - 1) = lo + j - 1 by lia] at z
          exact z
        · rw [if_neg (by lia)]
          have il : i < l := by lia
          by_cases j1 : j = l
          · rw [if_pos (by lia)]; exact d4 i il
          · rw [if_neg (by lia)]
            by_cases j2 : l < j ∧ j ≤ k
            · rw [if_pos ⟨by lia, by lia⟩]
              have z := b2 i (j - 1) (by lia) (by lia)
              rw [show lo + (j - 1) = lo + j - 1 by lia] at z
              exact z
            · rw [if_neg (by lia)]; exact b2 _ _ hij (by lia)
  · obtain ⟨hc, b1, b2⟩ := a3
    rw [show min (max (max ok 1) n) n = n by lia] at b2
    exact ⟨hc, b1, b2⟩
  · by_cases e : ok = 0
    · rw [show i = j by lia]; exact Int.le_refl _
    · exact hs i j hij (by lia)
  · obtain ⟨rfl, b1, b2⟩ := a3
    exact wpS_pure (h z b1 b2)
end
end L2
set_option Elab.async false
set_option linter.all false
set_option maxRecDepth 100000
set_option maxHeartbeats 4000000
namespace L2
open PySem PySem.Spec PyProof.Rows
abbrev gallop' : Bool → Keyed → Array Keyed → Nat → Nat → Nat → StateT SortSt Sem (Option Nat) := sortPriv% PySem.Builtin.gallop
section
variable {prog : Program} {w : World} {A : Around} {E : Value → Shared → Prop} {s : Shared} {rk : Value → Int} {kd : SortKind} {base : Array Keyed} {st : SortSt}
def rkA (rk : Value → Int) (xs : Array Keyed) (i : Nat) : Int := match xs[i]? with
  | some p => rk p.1
  | none => 0
theorem rkA_at {xs : Array Keyed} {i : Nat} (h : i < xs.size) : rkA rk xs i = rk xs[i].1 := by
  unfold rkA
  rw [Array.getElem?_eq_getElem h]
def Ahd (rk : Value → Int) (left : Bool) (key : Keyed) (arr : Array Keyed) (i : Nat) : Bool := if left then decide (rkA rk arr i < rk key.1) else !decide (rk key.1 < rkA rk arr i)
theorem bin3 {β : Type} {By : Nat → Bool} {n lo hi : Nat} {f : Nat → Option β × Nat × Nat → StateT SortSt Sem (ForInStep (Option β × Nat × Nat))}
    (f1 : ∀ x a b, a ≥ b → f x (none, a, b) = pure (.done (none, a, b))) (f2 : ∀ x a b, a < b → b ≤ n → ∀ Q' : ForInStep (Option β × Nat × Nat) → SortSt → Prop, Q' (.yield (if By (a + (b - a) / 2) = true then (none, a + (b - a) / 2 + 1, b) else (none, a, a + (b - a) / 2))) st → wpS (model prog w) A E s (f x (none, a, b)) Q' st)
    (mono : ∀ i j, i ≤ j → j < n → By j = true → By i = true) (h1 : lo ≤ hi) (h2 : hi ≤ n) (h3 : ∀ i, i < lo → By i = true) (h4 : ∀ i, hi ≤ i → i < n → By i = false) : wpS (model prog w) A E s (forIn [0:n] ((none : Option β), lo, hi) f) (fun c z => z = st ∧ ∃ a k, c = (none, a, k) ∧ k ≤ n ∧ (∀ i, i < k → By i = true) ∧ ∀ i, k ≤ i → i < n → By i = false) st := by
  refine wpS_forRange (I := fun x c z => z = st ∧ ∃ a b, c = (none, a, b) ∧ a ≤ b ∧ b ≤ n ∧ b - a ≤ n - x ∧ (∀ i, i < a → By i = true) ∧ ∀ i, b ≤ i → i < n → By i = false) (fun x c z a1 a2 a3 => ?_) (fun c z a3 => ?_) ⟨rfl, lo, hi, rfl, h1, h2, by lia, h3, h4⟩
  · obtain ⟨rfl, a, b, rfl, c1, c2, c3, c4, c5⟩ := a3
    by_cases e : a ≥ b
    · rw [f1 x a b e]
      have e' : a = b := by lia
      subst e'
      exact wpS_pure ⟨rfl, a, a, rfl, c2, c4, c5⟩
    · refine f2 x a b (by lia) c2 _ ?_
      cases e2 : By (a + (b - a) / 2) with
      | true => exact ⟨rfl, _, _, rfl, by lia, c2, by lia, fun i hi => mono i _ (by lia) (by lia) e2, c5⟩
      | false =>
        refine ⟨rfl, _, _, rfl, by lia, by lia, by lia, c4, fun i q1 q2 => ?_⟩
        cases e3 : By i with
        | false => rfl
        | true => rw [mono _ i q1 q2 e3] at e2; cases e2
  · obtain ⟨rfl, a, b, rfl, c1, c2, c3, c4, c5⟩ := a3
    have e' : a = b := by lia
    subst e'
    exact ⟨rfl, a, a, rfl, c2, c4, c5⟩
theorem to_gal (hL : LtBy prog w A s rk kd base) (hk : kindOf st = kd) {left : Bool} {key : Keyed} {arr : Array Keyed} {bs n hint : Nat} {Q : Option Nat → SortSt → Prop} (hkey : key ∈ base.toList) (hsz : bs + n ≤ arr.size) (hin : ∀ i (h : i < arr.size), arr[i] ∈ base.toList) (hh : hint < n)
    (asc : ∀ i j, i ≤ j → j < n → rkA rk arr (bs + i) ≤ rkA rk arr (bs + j)) (h : ∀ k, k ≤ n → (∀ i, i < k → Ahd rk left key arr (bs + i) = true) → (∀ i, k ≤ i → i < n → Ahd rk left key arr (bs + i) = false) → Q (some k) st) : wpS (model prog w) A E s (gallop' left key arr bs n hint) Q st := by
  obtain ⟨By, hBy⟩ : ∃ By : Nat → Bool, ∀ i, By i = Ahd rk left key arr (bs + i) := ⟨_, fun _ => rfl⟩
  have mono : ∀ i j, i ≤ j → j < n → By j = true → By i = true := fun i j hij hj hy => by
    have z := asc i j hij hj
    rw [hBy] at hy ⊢
    unfold Ahd at hy ⊢
    cases left <;> simp at hy ⊢ <;> lia
  have ask : ∀ i, i < n → ∀ Q' : Option Bool → SortSt → Prop, Q' (some (By i)) st → wpS (model prog w) A E s (elem' arr (bs + i) >>= fun x => if left = true then lt' x key else lt' key x >>= fun r => pure (Option.map (fun x => !x) r)) Q' st := fun i hi Q' q => by
    have hl : bs + i < arr.size := by lia
    refine wpS_bind (tk_el hl ?_)
    rw [hBy] at q
    unfold Ahd at q
    rw [rkA_at hl] at q
    cases left with
    | true => exact tk_lt hL hk (hin _ hl) hkey q
    | false => exact wpS_bind (tk_lt hL hk hkey (hin _ hl) (wpS_pure q))
  simp only [← hBy] at h
  refine wpS_bind (ask hint hh _ ?_)
  dsimp only
  cases hr : By hint with
  | true =>
    rw [if_pos rfl]
    refine wpS_bind (wpS_mono (wpS_forRange (I := fun x c z => z = st ∧ ∃ a b, c = (none, a, b) ∧ a < b ∧ hint + a < n ∧ x + 1 ≤ b ∧ By (hint + a) = true) (Q := fun c z => z = st ∧ ∃ a b, c = (none, a, b) ∧ a < b ∧ hint + a < n ∧ By (hint + a) = true ∧ (n - hint ≤ b ∨ By (hint + b) = false)) (fun x c z a1 a2 a3 => ?_) (fun c z a3 => ?_) ⟨rfl, 0, 1, rfl, by lia, by lia, by lia, hr⟩) fun c z a3 => ?_)
    · obtain ⟨rfl, a, b, rfl, c1, c2, c3, c4⟩ := a3
      dsimp only
      by_cases e : b ≥ n - hint
      · rw [if_pos e]
        exact wpS_pure ⟨rfl, a, b, rfl, c1, c2, c4, .inl e⟩
      · rw [if_neg e]
        refine wpS_bind (ask (hint + b) (by lia) _ ?_)
        cases e2 : By (hint + b) with
        | false => exact wpS_pure ⟨rfl, a, b, rfl, c1, c2, c4, .inr e2⟩
        | true => exact wpS_pure ⟨rfl, b, 2 * b + 1, rfl, by lia, by lia, by lia, e2⟩
    · obtain ⟨rfl, a, b, rfl, c1, c2, c3, c4⟩ := a3
      exact ⟨rfl, a, b, rfl, c1, c2, c4, .inl (by lia)⟩
    · obtain ⟨rfl, a, b, rfl, c1, c2, c4, c5⟩ := a3
      dsimp only
      refine wpS_bind (wpS_mono (bin3 (By := By) (fun x a b e => if_pos e) (fun x a b e e' Q' q => ?_) mono (by lia) (by lia) (fun i hi => mono i _ (by lia) c2 c4) (fun i q1 q2 => ?_)) fun c z hz => by
        obtain ⟨rfl, a, k, rfl, k1, k2, k3⟩ := hz
        exact wpS_pure (h k k1 k2 k3))
      · dsimp only
        rw [if_neg (by lia)]
        refine wpS_bind (ask _ (by lia) _ ?_)
        cases e2 : By (a + (b - a) / 2) with
        | true => rw [e2, if_pos rfl] at q; exact wpS_pure q
        | false => rw [e2, if_neg (by decide)] at q; exact wpS_pure q
      · rcases c5 with c5 | c5
        · exact absurd q1 (by lia)
        · cases e3 : By i with
          | false => rfl
          | true => rw [mono (hint + b) i (by lia) q2 e3] at c5; cases c5
  | false =>
    rw [if_neg (by decide)]
    refine wpS_bind (wpS_mono (wpS_forRange (I := fun x c z => z = st ∧ ∃ a b, c = (none, a, b) ∧ a < b ∧ a ≤ hint ∧ x + 1 ≤ b ∧ By (hint - a) = false) (Q := fun c z => z = st ∧ ∃ a b, c = (none, a, b) ∧ a < b ∧ a ≤ hint ∧ By (hint - a) = false ∧ (hint + 1 ≤ b ∨ (b ≤ hint ∧ By (hint - b) = true))) (fun x c z a1 a2 a3 => ?_) (fun c z a3 => ?_) ⟨rfl, 0, 1, rfl, by lia, by lia, by lia, hr⟩) fun c z a3 => ?_)
    · obtain ⟨rfl, a, b, rfl, c1, c2, c3, c4⟩ := a3
      dsimp only
      by_cases e : b ≥ hint + 1
      · rw [if_pos e]
        exact wpS_pure ⟨rfl, a, b, rfl, c1, c2, c4, .inl e⟩
      · rw [if_neg e]
        refine wpS_bind (ask (hint - b) (by lia) _ ?_)
        cases e2 : By (hint - b) with
        | true => exact wpS_pure ⟨rfl, a, b, rfl, c1, c2, c4, .inr ⟨by lia, e2⟩⟩
        | false => exact wpS_pure ⟨rfl, b, 2 * b + 1, rfl, by lia, by lia, by lia, e2⟩
    · obtain ⟨rfl, a, b, rfl, c1, c2, c3, c4⟩ := a3
      exact ⟨rfl, a, b, rfl, c1, c2, c4, .inl (by lia)⟩
    · obtain ⟨rfl, a, b, rfl, c1, c2, c4, c5⟩ := a3
      dsimp only
      refine wpS_bind (wpS_mono (bin3 (By := By) (fun x a b e => if_pos e) (fun x a b e e' Q' q => ?_) mono (by lia) (by lia) (fun i hi => ?_) (fun i q1 q2 => ?_)) fun c z hz => by
        obtain ⟨rfl, a, k, rfl, k1, k2, k3⟩ := hz
        exact wpS_pure (h k k1 k2 k3))
      · dsimp only
        rw [if_neg (by lia)]
        refine wpS_bind (ask _ (by lia) _ ?_)
        cases e2 : By (a + (b - a) / 2) with
        | true => rw [e2, if_pos rfl] at q; exact wpS_pure q
        | false => rw [e2, if_neg (by decide)] at q; exact wpS_pure q
      · rcases c5 with c5 | ⟨c5, c6⟩
        · exact absurd hi (by lia)
        · exact mono i (hint - b) (by lia) (by lia) c6
      · cases e3 : By i with
        | false => rfl
        | true => rw [mono (hint - a) i q1 q2 e3] at c4; cases c4
end
end L2
set_option Elab.async false
set_option linter.all false
set_option maxRecDepth 100000
set_option maxHeartbeats 4000000
namespace L2
open PySem PySem.Spec PyProof.Rows
abbrev mergeLo' : Array Keyed → Array Keyed → StateT SortSt Sem (Array Keyed) := sortPriv% PySem.Builtin.mergeLo
abbrev mergeHi' : Array Keyed → Array Keyed → StateT SortSt Sem (Array Keyed) := sortPriv% PySem.Builtin.mergeHi
section
variable {prog : Program} {w : World} {A : Around} {E : Value → Shared → Prop} {s : Shared} {rk : Value → Int} {kd : SortKind} {base : Array Keyed} {st : SortSt}
theorem toList_ext {α : Type} (xs : Array α) (i j : Nat) : (xs.extract i j).toList = (xs.toList.drop i).take (j - i) := by
  simp [Array.toList_extract, List.extract_eq_drop_take]
theorem toList_ext0 {α : Type} (xs : Array α) (i : Nat) : (xs.extract i).toList = xs.toList.drop i := by
  rw [toList_ext, List.take_of_length_le (by simp)]
theorem mem_dt {α : Type} {X : List α} {i k : Nat} {x : α} (h : x ∈ (X.drop i).take k) : ∃ t, t < k ∧ X[i + t]? = some x := by
  obtain ⟨t, ht⟩ := List.getElem?_of_mem h
  rw [List.getElem?_take] at ht
  split at ht
  · next z => exact ⟨t, z, by rw [List.getElem?_drop] at ht; exact ht⟩
  · cases ht
theorem mem_d {α : Type} {X : List α} {i : Nat} {x : α} (h : x ∈ X.drop i) : ∃ t, X[i + t]? = some x := by
  obtain ⟨t, ht⟩ := List.getElem?_of_mem h
  exact ⟨t, by rw [List.getElem?_drop] at ht; exact ht⟩
def Srt (rk : Value → Int) (l : List Keyed) : Prop := l.Pairwise fun x y => rk x.1 ≤ rk y.1
theorem Srt.at_ {l : List Keyed} (h : Srt rk l) {i j : Nat} {x y : Keyed} (hij : i ≤ j) (hx : l[i]? = some x) (hy : l[j]? = some y) : rk x.1 ≤ rk y.1 := by
  have li : i < l.length := List.getElem?_eq_some_iff.mp hx |>.1
  have lj : j < l.length := List.getElem?_eq_some_iff.mp hy |>.1
  have ex : l[i] = x := (List.getElem?_eq_some_iff.mp hx).2
  have ey : l[j] = y := (List.getElem?_eq_some_iff.mp hy).2
  rcases Nat.lt_or_ge i j with z | z
  · have q := List.pairwise_iff_getElem.mp h i j li lj z
    rw [ex, ey] at q; exact q
  · have e : i = j := by lia
    subst e
    rw [← ex, ← ey]; exact Int.le_refl _
structure MI (rk : Value → Int) (X Y o : List Keyed) (i j : Nat) : Prop where
  p : (o ++ (X.drop i ++ Y.drop j)).Perm (X ++ Y)
  s1 : Srt rk (o ++ X.drop i)
  s2 : Srt rk (o ++ Y.drop j)
def MF (rk : Value → Int) (X Y r : List Keyed) : Prop := r.Perm (X ++ Y) ∧ Srt rk r
theorem MI.swap {X Y o : List Keyed} {i j : Nat} (h : MI rk X Y o i j) : MI rk Y X o j i :=
  ⟨((List.Perm.append_left o List.perm_append_comm).trans h.p).trans List.perm_append_comm, h.s2, h.s1⟩
theorem MI.mv {X Y o : List Keyed} {i j : Nat} (h : MI rk X Y o i j) (k : Nat) (hc : ∀ x ∈ (X.drop i).take k, ∀ y ∈ Y.drop j, rk x.1 ≤ rk y.1) : MI rk X Y (o ++ (X.drop i).take k) (i + k) j := by
  have e : (X.drop i).take k ++ X.drop (i + k) = X.drop i := by rw [← List.drop_drop]; exact List.take_append_drop k _
  refine ⟨?_, ?_, ?_⟩
  · have p := h.p
    rw [← e] at p
    refine List.Perm.trans (List.Perm.of_eq ?_) p
    simp only [List.append_assoc]
  · show Srt rk _
    rw [List.append_assoc, e]; exact h.s1
  · have z := List.pairwise_append.mp h.s1
    have z2 := List.pairwise_append.mp h.s2
    have tk : ∀ x, x ∈ (X.drop i).take k → x ∈ X.drop i := fun x hx => List.mem_of_mem_take hx
    refine List.pairwise_append.mpr ⟨List.pairwise_append.mpr ⟨z.1, z.2.1.sublist (List.take_sublist _ _), fun x hx y hy => z.2.2 x hx y (tk y hy)⟩, z2.2.1, fun x hx y hy => ?_⟩
    rcases List.mem_append.mp hx with q | q
    · exact z2.2.2 x q y hy
    · exact hc x q y hy
theorem take1 {α : Type} {X : List α} {i : Nat} {x : α} (h : X[i]? = some x) : (X.drop i).take 1 = [x] := by
  have li : i < X.length := (List.getElem?_eq_some_iff.mp h).1
  rw [List.drop_eq_getElem_cons li, List.take_succ_cons, List.take_zero, (List.getElem?_eq_some_iff.mp h).2]
theorem MI.one {X Y o : List Keyed} {i j : Nat} {x : Keyed} (h : MI rk X Y o i j) (hx : X[i]? = some x) (hc : ∀ y ∈ Y.drop j, rk x.1 ≤ rk y.1) : MI rk X Y (o ++ [x]) (i + 1) j := by
  have z := h.mv 1 (by rw [take1 hx]; intro u hu; rw [List.mem_singleton.mp hu]; exact hc)
  rw [take1 hx] at z; exact z
theorem MI.endY {X Y o : List Keyed} {i j : Nat} (h : MI rk X Y o i j) (hj : Y.length ≤ j) : MF rk X Y (o ++ X.drop i ++ Y.drop j) := by
  have e : Y.drop j = [] := List.drop_eq_nil_of_le hj
  have p := h.p
  rw [e, List.append_nil] at p ⊢
  exact ⟨p, h.s1⟩
theorem MI.endX {X Y o : List Keyed} {i j : Nat} (h : MI rk X Y o i j) (hi : X.length ≤ i) : MF rk X Y (o ++ X.drop i ++ Y.drop j) := by
  have e : X.drop i = [] := List.drop_eq_nil_of_le hi
  have p := h.p
  rw [e, List.nil_append] at p
  rw [e, List.append_nil]
  exact ⟨p, h.s2⟩
theorem MI.last {X Y o : List Keyed} {i j : Nat} (h : MI rk X Y o i j) (hl : ∀ y ∈ Y.drop j, ∀ x ∈ X.drop i, rk y.1 ≤ rk x.1) : MF rk X Y (o ++ Y.drop j ++ X.drop i) := by
  have z := List.pairwise_append.mp h.s1
  refine ⟨?_, List.pairwise_append.mpr ⟨h.s2, z.2.1, fun u hu v hv => ?_⟩⟩
  · rw [List.append_assoc]
    exact (List.Perm.append_left o List.perm_append_comm).trans h.p
  · rcases List.mem_append.mp hu with q | q
    · exact z.2.2 u q v hv
    · exact hl u q v hv
end
end L2
set_option Elab.async false
set_option linter.all false
set_option maxRecDepth 100000
set_option maxHeartbeats 4000000
namespace L2
open PySem PySem.Spec PyProof.Rows
def SG (st z : SortSt) : Prop := kindOf z = kindOf st ∧ arrOf z = arrOf st ∧ pendingOf z = pendingOf st ∧ failedOf z = failedOf st
section
variable {prog : Program} {w : World} {A : Around} {E : Value → Shared → Prop} {s : Shared} {rk : Value → Int} {kd : SortKind} {base : Array Keyed} {st : SortSt}
abbrev setMinGallop' : Nat → StateT SortSt Sem Unit := sortPriv% PySem.Builtin.setMinGallop
theorem sg_set {g : Nat} {Q : Unit → SortSt → Prop} {z : SortSt} (hz : SG st z) (h : ∀ z', SG st z' → Q () z') : wpS (model prog w) A E s (setMinGallop' g) Q z := by
  exact wpS_modify (h _ hz)
theorem to_mlo (hL : LtBy prog w A s rk kd base) (hk : kindOf st = kd) {a b : Array Keyed} {Q : Array Keyed → SortSt → Prop} (ha : ∀ x ∈ a.toList, x ∈ base.toList) (hb : ∀ x ∈ b.toList, x ∈ base.toList) (sa : Srt rk a.toList) (sb : Srt rk b.toList) (la : 0 < a.size) (lb : 0 < b.size)
    (h0 : ∀ x ∈ a.toList, rkA rk b 0 ≤ rk x.1) (hl : ∀ y ∈ b.toList, rk y.1 ≤ rkA rk a (a.size - 1)) (h : ∀ o z, SG st z → MF rk a.toList b.toList o.toList → Q o z) : wpS (model prog w) A E s (mergeLo' a b) Q st := by
  have ga : ∀ i (hi : i < a.size), a.toList[i]? = some a[i] := fun i hi => by rw [Array.getElem?_toList, Array.getElem?_eq_getElem hi]
  have gb : ∀ i (hi : i < b.size), b.toList[i]? = some b[i] := fun i hi => by rw [Array.getElem?_toList, Array.getElem?_eq_getElem hi]
  have ina : ∀ i (hi : i < a.size), a[i] ∈ base.toList := fun i hi => ha _ (List.mem_of_getElem? (ga i hi))
  have inb : ∀ i (hi : i < b.size), b[i] ∈ base.toList := fun i hi => hb _ (List.mem_of_getElem? (gb i hi))
  have aa : ∀ i j, i ≤ j → j < a.size → rkA rk a i ≤ rkA rk a j := fun i j hij hj => by
    rw [rkA_at (show i < a.size by lia), rkA_at hj]
    exact sa.at_ hij (ga i (by lia)) (ga j hj)
  have ab : ∀ i j, i ≤ j → j < b.size → rkA rk b i ≤ rkA rk b j := fun i j hij hj => by
    rw [rkA_at (show i < b.size by lia), rkA_at hj]
    exact sb.at_ hij (gb i (by lia)) (gb j hj)
  have ix : ∀ {X : Array Keyed} {i : Nat} {x : Keyed}, X.toList[i]? = some x → i < X.size ∧ rk x.1 = rkA rk X i := fun {X i x} e => by
    rw [Array.getElem?_toList] at e
    unfold rkA
    rw [e]
    refine ⟨?_, rfl⟩
    rcases Nat.lt_or_ge i X.size with z | z
    · exact z
    · rw [Array.getElem?_eq_none z] at e; cases e
  have za : a.toList.length = a.size := Array.length_toList
  have zb : b.toList.length = b.size := Array.length_toList
  have fY : ∀ (o : Array Keyed) (i j : Nat) (z : SortSt), SG st z → MI rk a.toList b.toList o.toList i j → b.size ≤ j → Q (o ++ a.extract i ++ b.extract j) z := fun o i j z hz M hj => h _ z hz (by
    rw [Array.toList_append, Array.toList_append, toList_ext0, toList_ext0]; exact M.endY (by lia))
  have fX : ∀ (o : Array Keyed) (i j : Nat) (z : SortSt), SG st z → MI rk a.toList b.toList o.toList i j → a.size ≤ i → Q (o ++ a.extract i ++ b.extract j) z := fun o i j z hz M hj => h _ z hz (by
    rw [Array.toList_append, Array.toList_append, toList_ext0, toList_ext0]; exact M.endX (by lia))
  have fL : ∀ (o : Array Keyed) (i j : Nat) (z : SortSt), SG st z → MI rk a.toList b.toList o.toList i j → i + 1 = a.size → Q (o ++ b.extract j ++ a.extract i) z := fun o i j z hz M hi => h _ z hz (by
    rw [Array.toList_append, Array.toList_append, toList_ext0, toList_ext0]
    refine M.last fun y hy x hx => ?_
    obtain ⟨t, ht⟩ := mem_d hx
    obtain ⟨l1, e1⟩ := ix ht
    have e : i + t = a.size - 1 := by lia
    rw [e1, e]
    exact hl y (List.mem_of_mem_drop hy))
  have M0 : MI rk a.toList b.toList (#[b[0]] : Array Keyed).toList 0 1 := by
    have e : b.toList = b[0] :: b.toList.drop 1 := by
      have z := List.drop_eq_getElem_cons (l := b.toList) (i := 0) (by lia)
      rw [List.drop_zero] at z
      exact z
    refine ⟨?_, ?_, ?_⟩
    · show ([b[0]] ++ (a.toList.drop 0 ++ b.toList.drop 1)).Perm (a.toList ++ b.toList)
      rw [List.drop_zero]
      refine List.Perm.trans ?_ (List.Perm.of_eq (congrArg (a.toList ++ ·) e.symm))
      exact (List.perm_middle (a := b[0]) (l₁ := a.toList) (l₂ := b.toList.drop 1)).symm
    · show Srt rk ([b[0]] ++ a.toList.drop 0)
      rw [List.drop_zero]
      exact List.pairwise_cons.mpr ⟨fun x hx => by have z := h0 x hx; rw [rkA_at lb] at z; exact z, sa⟩
    · show Srt rk ([b[0]] ++ b.toList.drop 1)
      have z := sb
      rw [e] at z
      exact z
  have tkB : ∀ (o : Array Keyed) (i j : Nat) (hj : j < b.size), MI rk a.toList b.toList o.toList i j → (∀ x ∈ a.toList.drop i, rk b[j].1 ≤ rk x.1) → MI rk a.toList b.toList (o.push b[j]).toList i (j + 1) := fun o i j hj M hc => by
    rw [Array.toList_push]
    exact (M.swap.one (gb j hj) hc).swap
  have tkA : ∀ (o : Array Keyed) (i j : Nat) (hi : i < a.size), MI rk a.toList b.toList o.toList i j → (∀ y ∈ b.toList.drop j, rk a[i].1 ≤ rk y.1) → MI rk a.toList b.toList (o.push a[i]).toList (i + 1) j := fun o i j hi M hc => by
    rw [Array.toList_push]
    exact M.one (ga i hi) hc
  have geA : ∀ (i : Nat) (v : Int), (i < a.size → v ≤ rkA rk a i) → ∀ x ∈ a.toList.drop i, v ≤ rk x.1 := fun i v hv x hx => by
    obtain ⟨t, ht⟩ := mem_d hx
    obtain ⟨l1, e1⟩ := ix ht
    rw [e1]
    exact Int.le_trans (hv (by lia)) (aa i (i + t) (by lia) l1)
  have geB : ∀ (i : Nat) (v : Int), (i < b.size → v ≤ rkA rk b i) → ∀ x ∈ b.toList.drop i, v ≤ rk x.1 := fun i v hv x hx => by
    obtain ⟨t, ht⟩ := mem_d hx
    obtain ⟨l1, e1⟩ := ix ht
    rw [e1]
    exact Int.le_trans (hv (by lia)) (ab i (i + t) (by lia) l1)
  have sg0 : SG st st := ⟨rfl, rfl, rfl, rfl⟩
  refine wpS_bind (wpS_lift (wpAny_rule ⟨rfl, wpS_bind (tk_el lb ?_)⟩))
  by_cases e1 : 1 = b.size
  · rw [if_pos (by simpa using e1)]
    exact wpS_pure (fY _ 0 1 st sg0 M0 (by lia))
  rw [if_neg (by simpa using e1)]
  by_cases e2 : 1 = a.size
  · rw [if_pos (by simpa using e2)]
    exact wpS_pure (fL _ 0 1 st sg0 M0 e2)
  rw [if_neg (by simpa using e2)]
  refine wpS_bind (wpS_get ?_)
  refine wpS_bind (wpS_mono (wpS_forRange (I := fun x c z => SG st z ∧ ∃ o i j g, c = (none, o, i, j, g) ∧ MI rk a.toList b.toList o.toList i j ∧ i + 1 < a.size ∧ j < b.size ∧ x + 1 ≤ i + j) (Q := fun c z => ∃ r o i j g, c = (some r, o, i, j, g) ∧ Q r z) (fun x c z a1 a2 a3 => ?_) (fun c z a3 => ?_) ⟨sg0, _, _, _, _, rfl, M0, by lia, by lia, by lia⟩) fun c z a3 => ?_)
  · obtain ⟨hz, o, i, j, g, rfl, M, c1, c2, c3⟩ := a3
    dsimp only
    refine wpS_bind (wpS_mono (wpS_forRange (I := fun y c z => SG st z ∧ ∃ o i' j' ac bc, c = (none, o, i', j', ac, bc) ∧ MI rk a.toList b.toList o.toList i' j' ∧ i' + 1 < a.size ∧ j' < b.size ∧ i + j + y ≤ i' + j') (Q := fun c z => (∃ r o i j ac bc, c = (some r, o, i, j, ac, bc) ∧ Q r z) ∨ (SG st z ∧ ∃ o i' j' ac bc, c = (none, o, i', j', ac, bc) ∧ MI rk a.toList b.toList o.toList i' j' ∧ i' + 1 < a.size ∧ j' < b.size ∧ i + j + 1 ≤ i' + j')) (fun y c z a1' a2' a3 => ?_) (fun c z a3 => ?_) ⟨hz, _, _, _, _, _, rfl, M, c1, c2, by lia⟩) fun c z a3 => ?_)
    · obtain ⟨hz, o, i', j', ac, bc, rfl, M, d1, d2, d3⟩ := a3
      dsimp only
      have d1' : i' < a.size := by lia
      refine wpS_bind (tk_el d2 (wpS_bind (tk_el d1' (wpS_bind (tk_lt hL (hz.1.trans hk) (inb j' d2) (ina i' d1') ?_)))))
      by_cases e : rk b[j'].1 < rk a[i'].1
      · rw [decide_eq_true e]
        dsimp only
        rw [if_pos rfl]
        refine wpS_bind (tk_el d2 ?_)
        have M' := tkB o i' j' d2 M (geA i' _ fun _ => by rw [rkA_at d1']; exact Int.le_of_lt e)
        by_cases eb : j' + 1 = b.size
        · rw [if_pos (by simpa using eb)]
          exact wpS_pure (.inl ⟨_, _, _, _, _, _, rfl, fY _ _ _ z hz M' (by lia)⟩)
        · rw [if_neg (by simpa using eb)]
          split
          · exact wpS_pure (.inr ⟨hz, _, _, _, _, _, rfl, M', d1, by lia, by lia⟩)
          · exact wpS_pure ⟨hz, _, _, _, _, _, rfl, M', d1, by lia, by lia⟩
      · rw [decide_eq_false e]
        dsimp only
        rw [if_neg (by decide)]
        refine wpS_bind (tk_el d1' ?_)
        have M' := tkA o i' j' d1' M (geB j' _ fun _ => by rw [rkA_at d2]; exact Int.not_lt.mp e)
        by_cases eb : i' + 1 + 1 = a.size
        · rw [if_pos (by simpa using eb)]
          exact wpS_pure (.inl ⟨_, _, _, _, _, _, rfl, fL _ _ _ z hz M' eb⟩)
        · rw [if_neg (by simpa using eb)]
          split
          · exact wpS_pure (.inr ⟨hz, _, _, _, _, _, rfl, M', by lia, d2, by lia⟩)
          · exact wpS_pure ⟨hz, _, _, _, _, _, rfl, M', by lia, d2, by lia⟩
    · obtain ⟨hz, o, i', j', ac, bc, rfl, M, d1, d2, d3⟩ := a3
      exact .inr ⟨hz, _, _, _, _, _, rfl, M, d1, d2, by lia⟩
    · rcases a3 with ⟨r, o, i', j', ac, bc, rfl, hr⟩ | ⟨hz, o, i', j', ac, bc, rfl, M, d1, d2, d3⟩
      · exact wpS_pure ⟨r, _, _, _, _, rfl, hr⟩
      dsimp only
      refine wpS_bind (wpS_lift (wpAny_rule ⟨rfl, ?_⟩))
      refine wpS_bind (wpS_mono (wpS_forRange (I := fun y c z => SG st z ∧ ∃ o i' j' g ac bc, c = (none, o, i', j', g, ac, bc) ∧ MI rk a.toList b.toList o.toList i' j' ∧ i' + 1 < a.size ∧ j' < b.size ∧ i + j + 1 ≤ i' + j') (Q := fun c z => (∃ r o i j g ac bc, c = (some r, o, i, j, g, ac, bc) ∧ Q r z) ∨ (SG st z ∧ ∃ o i' j' g ac bc, c = (none, o, i', j', g, ac, bc) ∧ MI rk a.toList b.toList o.toList i' j' ∧ i' + 1 < a.size ∧ j' < b.size ∧ i + j + 1 ≤ i' + j')) (fun y c z a1' a2' a3 => ?_) (fun c z a3 => .inr a3) ⟨hz, _, _, _, _, _, _, rfl, M, d1, d2, d3⟩) fun c z a3 => ?_)
      · obtain ⟨hz, o, i', j', g, ac, bc, rfl, M, d1, d2, d3⟩ := a3
        dsimp only
        have d1' : i' < a.size := by lia
        by_cases hg : g > 1
        case' pos => rw [if_pos hg]
        case' neg => rw [if_neg hg]
        all_goals
          refine wpS_bind (sg_set hz fun z hz => ?_)
          refine wpS_bind (tk_el d2 ?_)
          refine wpS_bind (to_gal hL (hz.1.trans hk) (inb j' d2) (by lia) ina (by lia) (fun p q hpq hq => aa _ _ (by lia) (by lia)) fun k k1 k2 k3 => ?_)
          dsimp only
          have cA : ∀ x ∈ a.toList.drop (i' + k), rk b[j'].1 ≤ rk x.1 := geA _ _ fun hlt => by
            have z := k3 k (Nat.le_refl _) (by lia)
            unfold Ahd at z
            simp at z
            exact Int.le_of_lt z
          have Mk := M.mv k fun x hx y hy => by
            obtain ⟨t, t1, ht⟩ := mem_dt hx
            obtain ⟨l1, e1⟩ := ix ht
            have z := k2 t t1
            unfold Ahd at z
            simp at z
            rw [e1]
            refine Int.le_trans z ?_
            exact geB j' _ (fun _ => by rw [rkA_at d2]; exact Int.le_refl _) y hy
          by_cases e : k > 0
          case' pos =>
            rw [if_pos e]
            have M' : MI rk a.toList b.toList (o ++ a.extract i' (i' + k)).toList (i' + k) j' := by
              rw [Array.toList_append, toList_ext, show i' + k - i' = k by lia]; exact Mk
            by_cases ea : i' + k + 1 = a.size
            · rw [if_pos (by simpa using ea)]
              exact wpS_pure (.inl ⟨_, _, _, _, _, _, _, rfl, fL _ _ _ z hz M' ea⟩)
            rw [if_neg (by simpa using ea)]
            by_cases eb : i' + k = a.size
            · rw [if_pos (by simpa using eb)]
              exact wpS_pure (.inl ⟨_, _, _, _, _, _, _, rfl, fX _ _ _ z hz M' (by lia)⟩)
            rw [if_neg (by simpa using eb)]
            have hP : MI rk a.toList b.toList (o ++ a.extract i' (i' + k)).toList (i' + k) j' ∧ i' + k + 1 < a.size ∧ (∀ x ∈ a.toList.drop (i' + k), rk b[j'].1 ≤ rk x.1) ∧ i + j + 1 ≤ i' + k + j' := ⟨M', by lia, cA, by lia⟩
            generalize o ++ a.extract i' (i' + k) = o at hP ⊢
            generalize i' + k = i' at hP ⊢
          case' neg =>
            rw [if_neg e]
            have e0 : k = 0 := by lia
            rw [e0, Nat.add_zero] at cA
            have hP : MI rk a.toList b.toList o.toList i' j' ∧ i' + 1 < a.size ∧ (∀ x ∈ a.toList.drop i', rk b[j'].1 ≤ rk x.1) ∧ i + j + 1 ≤ i' + j' := ⟨M, d1, cA, d3⟩
          all_goals
            obtain ⟨M, d1, cA, d3⟩ := hP
            have d1' : i' < a.size := by lia
            refine wpS_bind (tk_el d2 ?_)
            have M' := tkB o i' j' d2 M cA
            by_cases eb : j' + 1 = b.size
            · rw [if_pos (by simpa using eb)]
              exact wpS_pure (.inl ⟨_, _, _, _, _, _, _, rfl, fY _ _ _ z hz M' (by lia)⟩)
            rw [if_neg (by simpa using eb)]
            refine wpS_bind (tk_el d1' ?_)
            refine wpS_bind (to_gal hL (hz.1.trans hk) (ina i' d1') (by lia) inb (by lia) (fun p q hpq hq => ab _ _ (by lia) (by lia)) fun k' k1' k2' k3' => ?_)
            dsimp only
            have cB : ∀ x ∈ b.toList.drop (j' + 1 + k'), rk a[i'].1 ≤ rk x.1 := geB _ _ fun hlt => by
              have z := k3' k' (Nat.le_refl _) (by lia)
              unfold Ahd at z
              simp at z
              exact z
            have Mk' := (M'.swap.mv k' fun x hx y hy => by
              obtain ⟨t, t1, ht⟩ := mem_dt hx
              obtain ⟨l1, e1⟩ := ix ht
              have z := k2' t t1
              unfold Ahd at z
              simp at z
              rw [e1]
              refine Int.le_trans (Int.le_of_lt z) ?_
              exact geA i' _ (fun _ => by rw [rkA_at d1']; exact Int.le_refl _) y hy).swap
            by_cases e : k' > 0
            case' pos =>
              rw [if_pos e]
              have M2 : MI rk a.toList b.toList (o.push b[j'] ++ b.extract (j' + 1) (j' + 1 + k')).toList i' (j' + 1 + k') := by
                rw [Array.toList_append, toList_ext, show j' + 1 + k' - (j' + 1) = k' by lia]; exact Mk'
              by_cases ea : j' + 1 + k' = b.size
              · rw [if_pos (by simpa using ea)]
                exact wpS_pure (.inl ⟨_, _, _, _, _, _, _, rfl, fY _ _ _ z hz M2 (by lia)⟩)
              rw [if_neg (by simpa using ea)]
              have hP : MI rk a.toList b.toList (o.push b[j'] ++ b.extract (j' + 1) (j' + 1 + k')).toList i' (j' + 1 + k') ∧ j' + 1 + k' < b.size ∧ (∀ x ∈ b.toList.drop (j' + 1 + k'), rk a[i'].1 ≤ rk x.1) ∧ i + j + 1 ≤ i' + (j' + 1 + k') := ⟨M2, by lia, cB, by lia⟩
              generalize o.push b[j'] ++ b.extract (j' + 1) (j' + 1 + k') = o at hP ⊢
              generalize j' + 1 + k' = j'' at hP ⊢
            case' neg =>
              rw [if_neg e]
              have e0 : k' = 0 := by lia
              rw [e0, Nat.add_zero] at cB
              have hP : MI rk a.toList b.toList (o.push b[j']).toList i' (j' + 1) ∧ j' + 1 < b.size ∧ (∀ x ∈ b.toList.drop (j' + 1), rk a[i'].1 ≤ rk x.1) ∧ i + j + 1 ≤ i' + (j' + 1) := ⟨M', by lia, cB, by lia⟩
              generalize o.push b[j'] = o at hP ⊢
              generalize j' + 1 = j'' at hP ⊢
            all_goals
              obtain ⟨M, d2, cB, d3⟩ := hP
              refine wpS_bind (tk_el d1' ?_)
              have M2 := tkA o i' j'' d1' M cB
              by_cases ea : i' + 1 + 1 = a.size
              · rw [if_pos (by simpa using ea)]
                exact wpS_pure (.inl ⟨_, _, _, _, _, _, _, rfl, fL _ _ _ z hz M2 ea⟩)
              · rw [if_neg (by simpa using ea)]
                split
                · exact wpS_pure (.inr ⟨hz, _, _, _, _, _, _, rfl, M2, by lia, d2, by lia⟩)
                · exact wpS_pure ⟨hz, _, _, _, _, _, _, rfl, M2, by lia, d2, by lia⟩
      · rcases a3 with ⟨r, o, i', j', g, ac, bc, rfl, hr⟩ | ⟨hz, o, i', j', g, ac, bc, rfl, M, d1, d2, d3⟩
        · exact wpS_pure ⟨r, _, _, _, _, rfl, hr⟩
        · exact wpS_bind (sg_set hz fun z hz => wpS_pure ⟨hz, _, _, _, _, rfl, M, d1, d2, by lia⟩)
  · obtain ⟨hz, o, i, j, g, rfl, M, c1, c2, c3⟩ := a3
    exfalso
    lia
  · obtain ⟨r, o, i, j, g, rfl, hr⟩ := a3
    exact wpS_pure hr
end
end L2
set_option Elab.async false
set_option linter.all false
set_option maxRecDepth 100000
set_option maxHeartbeats 4000000
namespace L2
open PySem PySem.Spec PyProof.Rows
section
variable {prog : Program} {w : World} {A : Around} {E : Value → Shared → Prop} {s : Shared} {rk : Value → Int} {kd : SortKind} {base : Array Keyed} {st : SortSt}
structure MH (rk : Value → Int) (X Y o : List Keyed) (i j : Nat) : Prop where
  p : (X.take i ++ Y.take j ++ o).Perm (X ++ Y)
  s1 : Srt rk (X.take i ++ o)
  s2 : Srt rk (Y.take j ++ o)
theorem MH.swap {X Y o : List Keyed} {i j : Nat} (h : MH rk X Y o i j) : MH rk Y X o j i :=
  ⟨((List.Perm.append_right o List.perm_append_comm).trans h.p).trans List.perm_append_comm, h.s2, h.s1⟩
theorem MH.mv {X Y o : List Keyed} {i j : Nat} (h : MH rk X Y o i j) (k : Nat) (hk : k ≤ i) (hc : ∀ x ∈ (X.drop k).take (i - k), ∀ y ∈ Y.take j, rk y.1 ≤ rk x.1) : MH rk X Y ((X.drop k).take (i - k) ++ o) k j := by
  have e : X.take k ++ (X.drop k).take (i - k) = X.take i := by
    have z := List.take_append_drop k (X.take i)
    rw [List.take_take, Nat.min_eq_left hk, List.drop_take] at z
    exact z
  refine ⟨?_, ?_, ?_⟩
  · have p := h.p
    rw [← e] at p
    refine List.Perm.trans ?_ p
    simp only [List.append_assoc]
    exact List.Perm.append_left _ (List.perm_append_comm_assoc _ _ _)
  · show Srt rk _
    rw [← List.append_assoc, e]; exact h.s1
  · have z := h.s1
    rw [← e, List.append_assoc] at z
    have z1 := List.pairwise_append.mp z
    have z2 := List.pairwise_append.mp h.s2
    refine List.pairwise_append.mpr ⟨z2.1, z1.2.1, fun x hx y hy => ?_⟩
    rcases List.mem_append.mp hy with q | q
    · exact hc y q x hx
    · exact z2.2.2 x hx y q
theorem MH.one {X Y o : List Keyed} {i j : Nat} {x : Keyed} (h : MH rk X Y o i j) (h1 : 1 ≤ i) (hx : X[i - 1]? = some x) (hc : ∀ y ∈ Y.take j, rk y.1 ≤ rk x.1) : MH rk X Y (x :: o) (i - 1) j := by
  have z := h.mv (i - 1) (by lia)
  rw [show i - (i - 1) = 1 by lia, take1 hx] at z
  exact z fun u hu => by rw [List.mem_singleton.mp hu]; exact hc
theorem MH.endX {X Y o : List Keyed} {j : Nat} (h : MH rk X Y o 0 j) : MF rk X Y (X.take 0 ++ Y.take j ++ o) := ⟨h.p, h.s2⟩
theorem MH.endY {X Y o : List Keyed} {i : Nat} (h : MH rk X Y o i 0) : MF rk X Y (X.take i ++ Y.take 0 ++ o) := by
  refine ⟨h.p, ?_⟩
  rw [List.take_zero, List.append_nil]
  exact h.s1
theorem MH.first {X Y o : List Keyed} {i j : Nat} (h : MH rk X Y o i j) (hl : ∀ y ∈ Y.take j, ∀ x ∈ X.take i, rk y.1 ≤ rk x.1) : MF rk X Y (Y.take j ++ X.take i ++ o) := by
  have z2 := List.pairwise_append.mp h.s2
  refine ⟨(List.Perm.append_right o List.perm_append_comm).trans h.p, ?_⟩
  show Srt rk _
  rw [List.append_assoc]
  refine List.pairwise_append.mpr ⟨z2.1, h.s1, fun u hu v hv => ?_⟩
  rcases List.mem_append.mp hv with q | q
  · exact hl u hu v q
  · exact z2.2.2 u hu v q
theorem mem_t {α : Type} {X : List α} {i : Nat} {x : α} (h : x ∈ X.take i) : ∃ t, t < i ∧ X[t]? = some x := by
  have z := mem_dt (X := X) (i := 0) (k := i) (by rw [List.drop_zero]; exact h)
  simpa using z
theorem toList_ext1 {α : Type} (xs : Array α) (i : Nat) : (xs.extract 0 i).toList = xs.toList.take i := by
  rw [toList_ext, List.drop_zero, Nat.sub_zero]
theorem to_mhi (hL : LtBy prog w A s rk kd base) (hk : kindOf st = kd) {a b : Array Keyed} {Q : Array Keyed → SortSt → Prop} (ha : ∀ x ∈ a.toList, x ∈ base.toList) (hb : ∀ x ∈ b.toList, x ∈ base.toList) (sa : Srt rk a.toList) (sb : Srt rk b.toList) (la : 0 < a.size) (lb : 0 < b.size)
    (h0 : ∀ x ∈ a.toList, rkA rk b 0 ≤ rk x.1) (hl : ∀ y ∈ b.toList, rk y.1 ≤ rkA rk a (a.size - 1)) (h : ∀ o z, SG st z → MF rk a.toList b.toList o.toList → Q o z) : wpS (model prog w) A E s (mergeHi' a b) Q st := by
  have ga : ∀ i (hi : i < a.size), a.toList[i]? = some a[i] := fun i hi => by rw [Array.getElem?_toList, Array.getElem?_eq_getElem hi]
  have gb : ∀ i (hi : i < b.size), b.toList[i]? = some b[i] := fun i hi => by rw [Array.getElem?_toList, Array.getElem?_eq_getElem hi]
  have ina : ∀ i (hi : i < a.size), a[i] ∈ base.toList := fun i hi => ha _ (List.mem_of_getElem? (ga i hi))
  have inb : ∀ i (hi : i < b.size), b[i] ∈ base.toList := fun i hi => hb _ (List.mem_of_getElem? (gb i hi))
  have aa : ∀ i j, i ≤ j → j < a.size → rkA rk a i ≤ rkA rk a j := fun i j hij hj => by
    rw [rkA_at (show i < a.size by lia), rkA_at hj]
    exact sa.at_ hij (ga i (by lia)) (ga j hj)
  have ab : ∀ i j, i ≤ j → j < b.size → rkA rk b i ≤ rkA rk b j := fun i j hij hj => by
    rw [rkA_at (show i < b.size by lia), rkA_at hj]
    exact sb.at_ hij (gb i (by lia)) (gb j hj)
  have ix : ∀ {X : Array Keyed} {i : Nat} {x : Keyed}, X.toList[i]? = some x → i < X.size ∧ rk x.1 = rkA rk X i := fun {X i x} e => by
    rw [Array.getElem?_toList] at e
    unfold rkA
    rw [e]
    refine ⟨?_, rfl⟩
    rcases Nat.lt_or_ge i X.size with z | z
    · exact z
    · rw [Array.getElem?_eq_none z] at e; cases e
  have za : a.toList.length = a.size := Array.length_toList
  have zb : b.toList.length = b.size := Array.length_toList
  have fA : ∀ (o : Array Keyed) (i j : Nat) (z : SortSt), SG st z → MH rk a.toList b.toList o.toList.reverse i j → i = 0 → Q (a.extract 0 i ++ b.extract 0 j ++ o.reverse) z := fun o i j z hz M hj => h _ z hz (by
    subst hj
    rw [Array.toList_append, Array.toList_append, toList_ext1, toList_ext1, Array.toList_reverse]; exact M.endX)
  have fZ : ∀ (o : Array Keyed) (i j : Nat) (z : SortSt), SG st z → MH rk a.toList b.toList o.toList.reverse i j → j = 0 → Q (a.extract 0 i ++ b.extract 0 j ++ o.reverse) z := fun o i j z hz M hj => h _ z hz (by
    subst hj
    rw [Array.toList_append, Array.toList_append, toList_ext1, toList_ext1, Array.toList_reverse]; exact M.endY)
  have fF : ∀ (o : Array Keyed) (i j : Nat) (z : SortSt), SG st z → MH rk a.toList b.toList o.toList.reverse i j → j = 1 → Q (b.extract 0 j ++ a.extract 0 i ++ o.reverse) z := fun o i j z hz M hi => h _ z hz (by
    rw [Array.toList_append, Array.toList_append, toList_ext1, toList_ext1, Array.toList_reverse]
    refine M.first fun y hy x hx => ?_
    obtain ⟨t, t1, ht⟩ := mem_t hy
    obtain ⟨l1, e1⟩ := ix ht
    have e : t = 0 := by lia
    rw [e1, e]
    exact h0 x (List.mem_of_mem_take hx))
  have hal : a.size - 1 < a.size := by lia
  have M0 : MH rk a.toList b.toList (#[a[a.size - 1]] : Array Keyed).toList.reverse (a.size - 1) b.size := by
    have e : a.toList = a.toList.take (a.size - 1) ++ [a[a.size - 1]] := by
      have z := (List.take_append_drop (a.size - 1) a.toList).symm
      have z2 := take1 (ga _ hal)
      rw [List.take_of_length_le (by rw [List.length_drop]; lia)] at z2
      rw [z2] at z
      exact z
    have eb : b.toList.take b.size = b.toList := List.take_of_length_le (by lia)
    refine ⟨?_, ?_, ?_⟩
    · show (a.toList.take (a.size - 1) ++ b.toList.take b.size ++ [a[a.size - 1]]).Perm (a.toList ++ b.toList)
      rw [eb]
      refine List.Perm.trans ?_ (List.Perm.of_eq (congrArg (· ++ b.toList) e.symm))
      rw [List.append_assoc, List.append_assoc]
      exact List.Perm.append_left _ List.perm_append_comm
    · show Srt rk (a.toList.take (a.size - 1) ++ [a[a.size - 1]])
      rw [← e]; exact sa
    · show Srt rk (b.toList.take b.size ++ [a[a.size - 1]])
      rw [eb]
      refine List.pairwise_append.mpr ⟨sb, List.pairwise_singleton _ _, fun x hx y hy => ?_⟩
      have z := hl x hx
      rw [rkA_at hal] at z
      rw [List.mem_singleton.mp hy]; exact z
  have tkB : ∀ (o : Array Keyed) (i j : Nat) (h1 : 1 ≤ j) (hj : j - 1 < b.size), MH rk a.toList b.toList o.toList.reverse i j → (∀ x ∈ a.toList.take i, rk x.1 ≤ rk b[j - 1].1) → MH rk a.toList b.toList (o.push b[j - 1]).toList.reverse i (j - 1) := fun o i j h1 hj M hc => by
    rw [Array.toList_push, List.reverse_append]
    exact (M.swap.one h1 (gb _ hj) hc).swap
  have tkA : ∀ (o : Array Keyed) (i j : Nat) (h1 : 1 ≤ i) (hi : i - 1 < a.size), MH rk a.toList b.toList o.toList.reverse i j → (∀ y ∈ b.toList.take j, rk y.1 ≤ rk a[i - 1].1) → MH rk a.toList b.toList (o.push a[i - 1]).toList.reverse (i - 1) j := fun o i j h1 hi M hc => by
    rw [Array.toList_push, List.reverse_append]
    exact M.one h1 (ga _ hi) hc
  have leA : ∀ (i : Nat) (v : Int), (1 ≤ i → i ≤ a.size → rkA rk a (i - 1) ≤ v) → i ≤ a.size → ∀ x ∈ a.toList.take i, rk x.1 ≤ v := fun i v hv hi x hx => by
    obtain ⟨t, t1, ht⟩ := mem_t hx
    obtain ⟨l1, e1⟩ := ix ht
    rw [e1]
    exact Int.le_trans (aa t (i - 1) (by lia) (by lia)) (hv (by lia) hi)
  have leB : ∀ (i : Nat) (v : Int), (1 ≤ i → i ≤ b.size → rkA rk b (i - 1) ≤ v) → i ≤ b.size → ∀ x ∈ b.toList.take i, rk x.1 ≤ v := fun i v hv hi x hx => by
    obtain ⟨t, t1, ht⟩ := mem_t hx
    obtain ⟨l1, e1⟩ := ix ht
    rw [e1]
    exact Int.le_trans (ab t (i - 1) (by lia) (by lia)) (hv (by lia) hi)
  have sg0 : SG st st := ⟨rfl, rfl, rfl, rfl⟩
  refine wpS_bind (wpS_lift (wpAny_rule ⟨rfl, wpS_bind (tk_el hal ?_)⟩))
  by_cases e1 : a.size - 1 = 0
  · rw [if_pos (by simpa using e1)]
    exact wpS_pure (fA _ _ b.size st sg0 M0 e1)
  rw [if_neg (by simpa using e1)]
  by_cases e2 : b.size = 1
  · rw [if_pos (by simpa using e2)]
    exact wpS_pure (fF _ _ b.size st sg0 M0 e2)
  rw [if_neg (by simpa using e2)]
  refine wpS_bind (wpS_get ?_)
  refine wpS_bind (wpS_mono (wpS_forRange (I := fun x c z => SG st z ∧ ∃ i j o g, c = (none, i, j, o, g) ∧ MH rk a.toList b.toList o.toList.reverse i j ∧ 1 ≤ i ∧ 2 ≤ j ∧ i ≤ a.size ∧ j ≤ b.size ∧ x + (i + j) + 1 ≤ a.size + b.size) (Q := fun c z => ∃ r i j o g, c = (some r, i, j, o, g) ∧ Q r z) (fun x c z a1 a2 a3 => ?_) (fun c z a3 => ?_) ⟨sg0, _, _, _, _, rfl, M0, by lia, by lia, by lia, by lia, by lia⟩) fun c z a3 => ?_)
  · obtain ⟨hz, i, j, o, g, rfl, M, c1, c2, c1', c2', c3⟩ := a3
    dsimp only
    refine wpS_bind (wpS_mono (wpS_forRange (I := fun y c z => SG st z ∧ ∃ i' j' o ac bc, c = (none, i', j', o, ac, bc) ∧ MH rk a.toList b.toList o.toList.reverse i' j' ∧ 1 ≤ i' ∧ 2 ≤ j' ∧ i' ≤ a.size ∧ j' ≤ b.size ∧ i' + j' + y ≤ i + j) (Q := fun c z => (∃ r i j o ac bc, c = (some r, i, j, o, ac, bc) ∧ Q r z) ∨ (SG st z ∧ ∃ i' j' o ac bc, c = (none, i', j', o, ac, bc) ∧ MH rk a.toList b.toList o.toList.reverse i' j' ∧ 1 ≤ i' ∧ 2 ≤ j' ∧ i' ≤ a.size ∧ j' ≤ b.size ∧ i' + j' + 1 ≤ i + j)) (fun y c z a1' a2' a3 => ?_) (fun c z a3 => ?_) ⟨hz, _, _, _, _, _, rfl, M, c1, c2, c1', c2', by lia⟩) fun c z a3 => ?_)
    · obtain ⟨hz, i', j', o, ac, bc, rfl, M, d1, d2, d1', d2', d3⟩ := a3
      dsimp only
      have ei : i' - 1 < a.size := by lia
      have ej : j' - 1 < b.size := by lia
      refine wpS_bind (tk_el ej (wpS_bind (tk_el ei (wpS_bind (tk_lt hL (hz.1.trans hk) (inb _ ej) (ina _ ei) ?_)))))
      by_cases e : rk b[j' - 1].1 < rk a[i' - 1].1
      · rw [decide_eq_true e]
        dsimp only
        rw [if_pos rfl]
        refine wpS_bind (tk_el ei ?_)
        have M' := tkA o i' j' d1 ei M (leB j' _ (fun _ _ => by rw [rkA_at ej]; exact Int.le_of_lt e) d2')
        by_cases eb : i' - 1 = 0
        · rw [if_pos (by simpa using eb)]
          exact wpS_pure (.inl ⟨_, _, _, _, _, _, rfl, fA _ _ _ z hz M' eb⟩)
        · rw [if_neg (by simpa using eb)]
          split
          · exact wpS_pure (.inr ⟨hz, _, _, _, _, _, rfl, M', by lia, d2, by lia, d2', by lia⟩)
          · exact wpS_pure ⟨hz, _, _, _, _, _, rfl, M', by lia, d2, by lia, d2', by lia⟩
      · rw [decide_eq_false e]
        dsimp only
        rw [if_neg (by decide)]
        refine wpS_bind (tk_el ej ?_)
        have M' := tkB o i' j' (by lia) ej M (leA i' _ (fun _ _ => by rw [rkA_at ei]; exact Int.not_lt.mp e) d1')
        by_cases eb : j' - 1 = 1
        · rw [if_pos (by simpa using eb)]
          exact wpS_pure (.inl ⟨_, _, _, _, _, _, rfl, fF _ _ _ z hz M' eb⟩)
        · rw [if_neg (by simpa using eb)]
          split
          · exact wpS_pure (.inr ⟨hz, _, _, _, _, _, rfl, M', d1, by lia, d1', by lia, by lia⟩)
          · exact wpS_pure ⟨hz, _, _, _, _, _, rfl, M', d1, by lia, d1', by lia, by lia⟩
    · obtain ⟨hz, i', j', o, ac, bc, rfl, M, d1, d2, d1', d2', d3⟩ := a3
      exact .inr ⟨hz, _, _, _, _, _, rfl, M, d1, d2, d1', d2', by lia⟩
    · rcases a3 with ⟨r, i', j', o, ac, bc, rfl, hr⟩ | ⟨hz, i', j', o, ac, bc, rfl, M, d1, d2, d1', d2', d3⟩
      · exact wpS_pure ⟨r, _, _, _, _, rfl, hr⟩
      dsimp only
      refine wpS_bind (wpS_lift (wpAny_rule ⟨rfl, ?_⟩))
      refine wpS_bind (wpS_mono (wpS_forRange (I := fun y c z => SG st z ∧ ∃ i' j' o g ac bc, c = (none, i', j', o, g, ac, bc) ∧ MH rk a.toList b.toList o.toList.reverse i' j' ∧ 1 ≤ i' ∧ 2 ≤ j' ∧ i' ≤ a.size ∧ j' ≤ b.size ∧ i' + j' + 1 ≤ i + j) (Q := fun c z => (∃ r i j o g ac bc, c = (some r, i, j, o, g, ac, bc) ∧ Q r z) ∨ (SG st z ∧ ∃ i' j' o g ac bc, c = (none, i', j', o, g, ac, bc) ∧ MH rk a.toList b.toList o.toList.reverse i' j' ∧ 1 ≤ i' ∧ 2 ≤ j' ∧ i' ≤ a.size ∧ j' ≤ b.size ∧ i' + j' + 1 ≤ i + j)) (fun y c z a1' a2' a3 => ?_) (fun c z a3 => .inr a3) ⟨hz, _, _, _, _, _, _, rfl, M, d1, d2, d1', d2', d3⟩) fun c z a3 => ?_)
      · obtain ⟨hz, i', j', o, g, ac, bc, rfl, M, d1, d2, d1', d2', d3⟩ := a3
        dsimp only
        have ej : j' - 1 < b.size := by lia
        by_cases hg : g > 1
        case' pos => rw [if_pos hg]
        case' neg => rw [if_neg hg]
        all_goals
          refine wpS_bind (sg_set hz fun z hz => ?_)
          refine wpS_bind (tk_el ej ?_)
          refine wpS_bind (to_gal hL (hz.1.trans hk) (inb _ ej) (by lia) ina (by lia) (fun p q hpq hq => aa _ _ (by lia) (by lia)) fun k k1 k2 k3 => ?_)
          dsimp only
          have cA : ∀ x ∈ a.toList.take k, rk x.1 ≤ rk b[j' - 1].1 := leA _ _ (fun h1 h2 => by
            have z := k2 (k - 1) (by lia)
            unfold Ahd at z
            simp at z
            exact z) (by lia)
          have Mk := M.mv k k1 fun x hx y hy => by
            obtain ⟨t, t1, ht⟩ := mem_dt hx
            obtain ⟨l1, e1⟩ := ix ht
            have z := k3 (k + t) (by lia) (by lia)
            unfold Ahd at z
            simp at z
            rw [e1]
            refine Int.le_trans ?_ (Int.le_of_lt z)
            exact leB j' _ (fun _ _ => by rw [rkA_at ej]; exact Int.le_refl _) d2' y hy
          by_cases e : i' - k > 0
          case' pos =>
            rw [if_pos e]
            have M' : MH rk a.toList b.toList (o ++ (a.extract k i').reverse).toList.reverse k j' := by
              rw [Array.toList_append, Array.toList_reverse, List.reverse_append, List.reverse_reverse, toList_ext]; exact Mk
            by_cases ea : k = 0
            · rw [if_pos (by simpa using ea)]
              exact wpS_pure (.inl ⟨_, _, _, _, _, _, _, rfl, fA _ _ _ z hz M' ea⟩)
            rw [if_neg (by simpa using ea)]
            have hP : MH rk a.toList b.toList (o ++ (a.extract k i').reverse).toList.reverse k j' ∧ 1 ≤ k ∧ k ≤ a.size ∧ (∀ x ∈ a.toList.take k, rk x.1 ≤ rk b[j' - 1].1) ∧ k + j' + 1 ≤ i + j := ⟨M', by lia, by lia, cA, by lia⟩
            generalize o ++ (a.extract k i').reverse = o at hP ⊢
            generalize i' - k = kk
            generalize k = i' at hP ⊢
          case' neg =>
            rw [if_neg e]
            have e0 : k = i' := by lia
            rw [e0] at cA
            have hP : MH rk a.toList b.toList o.toList.reverse i' j' ∧ 1 ≤ i' ∧ i' ≤ a.size ∧ (∀ x ∈ a.toList.take i', rk x.1 ≤ rk b[j' - 1].1) ∧ i' + j' + 1 ≤ i + j := ⟨M, d1, d1', cA, d3⟩
            generalize i' - k = kk
          all_goals
            obtain ⟨M, d1, d1', cA, d3⟩ := hP
            have ei : i' - 1 < a.size := by lia
            refine wpS_bind (tk_el ej ?_)
            have M' := tkB o i' j' (by lia) ej M cA
            by_cases eb : j' - 1 = 1
            · rw [if_pos (by simpa using eb)]
              exact wpS_pure (.inl ⟨_, _, _, _, _, _, _, rfl, fF _ _ _ z hz M' eb⟩)
            rw [if_neg (by simpa using eb)]
            refine wpS_bind (tk_el ei ?_)
            refine wpS_bind (to_gal hL (hz.1.trans hk) (ina _ ei) (by lia) inb (by lia) (fun p q hpq hq => ab _ _ (by lia) (by lia)) fun k' k1' k2' k3' => ?_)
            dsimp only
            have cB : ∀ x ∈ b.toList.take k', rk x.1 ≤ rk a[i' - 1].1 := leB _ _ (fun h1 h2 => by
              have z := k2' (k' - 1) (by lia)
              unfold Ahd at z
              simp at z
              exact Int.le_of_lt z) (by lia)
            have Mk' := (M'.swap.mv k' k1' fun x hx y hy => by
              obtain ⟨t, t1, ht⟩ := mem_dt hx
              obtain ⟨l1, e1⟩ := ix ht
              have z := k3' (k' + t) (by lia) (by lia)
              unfold Ahd at z
              simp at z
              rw [e1]
              refine Int.le_trans ?_ z
              exact leA i' _ (fun _ _ => by rw [rkA_at ei]; exact Int.le_refl _) d1' y hy).swap
            by_cases e : j' - 1 - k' > 0
            case' pos =>
              rw [if_pos e]
              have M2 : MH rk a.toList b.toList (o.push b[j' - 1] ++ (b.extract k' (j' - 1)).reverse).toList.reverse i' k' := by
                rw [Array.toList_append, Array.toList_reverse, List.reverse_append, List.reverse_reverse, toList_ext]; exact Mk'
              by_cases ea : k' = 1
              · rw [if_pos (by simpa using ea)]
                exact wpS_pure (.inl ⟨_, _, _, _, _, _, _, rfl, fF _ _ _ z hz M2 ea⟩)
              rw [if_neg (by simpa using ea)]
              by_cases ez : k' = 0
              · rw [if_pos (by simpa using ez)]
                exact wpS_pure (.inl ⟨_, _, _, _, _, _, _, rfl, fZ _ _ _ z hz M2 ez⟩)
              rw [if_neg (by simpa using ez)]
              have hP : MH rk a.toList b.toList (o.push b[j' - 1] ++ (b.extract k' (j' - 1)).reverse).toList.reverse i' k' ∧ 2 ≤ k' ∧ k' ≤ b.size ∧ (∀ x ∈ b.toList.take k', rk x.1 ≤ rk a[i' - 1].1) ∧ i' + k' + 1 ≤ i + j := ⟨M2, by lia, by lia, cB, by lia⟩
              generalize o.push b[j' - 1] ++ (b.extract k' (j' - 1)).reverse = o at hP ⊢
              generalize j' - 1 - k' = kz
              generalize k' = j'' at hP ⊢
            case' neg =>
              rw [if_neg e]
              have e0 : k' = j' - 1 := by lia
              rw [e0] at cB
              have hP : MH rk a.toList b.toList (o.push b[j' - 1]).toList.reverse i' (j' - 1) ∧ 2 ≤ j' - 1 ∧ j' - 1 ≤ b.size ∧ (∀ x ∈ b.toList.take (j' - 1), rk x.1 ≤ rk a[i' - 1].1) ∧ i' + (j' - 1) + 1 ≤ i + j := ⟨M', by lia, by lia, cB, by lia⟩
              generalize j' - 1 - k' = kz
              generalize o.push b[j' - 1] = o at hP ⊢
              generalize j' - 1 = j'' at hP ⊢
            all_goals
              obtain ⟨M, d2, d2', cB, d3⟩ := hP
              refine wpS_bind (tk_el ei ?_)
              have M2 := tkA o i' j'' d1 ei M cB
              by_cases ea : i' - 1 = 0
              · rw [if_pos (by simpa using ea)]
                exact wpS_pure (.inl ⟨_, _, _, _, _, _, _, rfl, fA _ _ _ z hz M2 ea⟩)
              · rw [if_neg (by simpa using ea)]
                split
                · exact wpS_pure (.inr ⟨hz, _, _, _, _, _, _, rfl, M2, by lia, d2, by lia, d2', by lia⟩)
                · exact wpS_pure ⟨hz, _, _, _, _, _, _, rfl, M2, by lia, d2, by lia, d2', by lia⟩
      · rcases a3 with ⟨r, i', j', o, g, ac, bc, rfl, hr⟩ | ⟨hz, i', j', o, g, ac, bc, rfl, M, d1, d2, d1', d2', d3⟩
        · exact wpS_pure ⟨r, _, _, _, _, rfl, hr⟩
        · exact wpS_bind (sg_set hz fun z hz => wpS_pure ⟨hz, _, _, _, _, rfl, M, d1, d2, d1', d2', by lia⟩)
  · obtain ⟨hz, i, j, o, g, rfl, M, c1, c2, c1', c2', c3⟩ := a3
    exfalso
    lia
  · obtain ⟨r, i, j, o, g, rfl, hr⟩ := a3
    exact wpS_pure hr
end
end L2
set_option Elab.async false
set_option linter.all false
set_option maxRecDepth 100000
set_option maxHeartbeats 4000000
namespace L2
open PySem PySem.Spec PyProof.Rows
def posL : Nat → List Nat → List (Nat × Nat)
  | _, [] => []
  | o, n :: r => (o, n) :: posL (o + n) r
theorem posL_app : ∀ (l m : List Nat) (o : Nat), posL o (l ++ m) = posL o l ++ posL (o + l.sum) m
  | [], m, o => by simp [posL]
  | n :: l, m, o => by
    show (o, n) :: posL (o + n) (l ++ m) = (o, n) :: (posL (o + n) l ++ _)
    rw [posL_app l m (o + n), List.sum_cons, Nat.add_assoc]
theorem posL_len : ∀ (l : List Nat) (o : Nat), (posL o l).length = l.length
  | [], _ => rfl
  | n :: l, o => by
    show (posL (o + n) l).length + 1 = l.length + 1
    rw [posL_len l]
theorem flat_len {α : Type} : ∀ rs : List (List α), rs.flatten.length = (rs.map List.length).sum
  | [] => rfl
  | r :: rs => by rw [List.flatten_cons, List.length_append, flat_len rs, List.map_cons, List.sum_cons]
theorem sets_at {α : Type} (o : Nat) : ∀ (l : List α) (n : Nat) (xs : Array α), o + n + l.length ≤ xs.size → ((l.zipIdx n).foldl (fun a x => a.setIfInBounds (o + x.2) x.1) xs).toList = xs.toList.take (o + n) ++ l ++ xs.toList.drop (o + n + l.length)
  | [], n, xs, h => by simp
  | p :: l, n, xs, h => by
    rw [List.length_cons] at h
    rw [List.zipIdx_cons, List.foldl_cons, sets_at o l (n + 1) _ (by rw [Array.size_setIfInBounds]; lia)]
    have hz : o + n < xs.toList.length := by rw [Array.length_toList]; lia
    show List.take (o + (n + 1)) (xs.setIfInBounds (o + n) p).toList ++ l ++ List.drop (o + (n + 1) + l.length) (xs.setIfInBounds (o + n) p).toList = _
    rw [Array.toList_setIfInBounds]
    have e1 : (xs.toList.set (o + n) p).take (o + (n + 1)) = xs.toList.take (o + n) ++ [p] := by
      rw [show o + (n + 1) = (o + n) + 1 by lia, List.take_succ, List.take_set_of_le (Nat.le_refl _), List.getElem?_set_self hz]
      rfl
    have e2 : (xs.toList.set (o + n) p).drop (o + (n + 1) + l.length) = xs.toList.drop (o + n + (p :: l).length) := by
      rw [List.drop_set_of_lt (by lia), List.length_cons]
      congr 1
      lia
    rw [e1, e2]
    simp only [List.append_assoc, List.singleton_append, List.cons_append, List.nil_append]
section
variable {prog : Program} {w : World} {A : Around} {E : Value → Shared → Prop} {s : Shared} {rk : Value → Int} {kd : SortKind} {base : Array Keyed} {st : SortSt}
structure RN (rk : Value → Int) (kd : SortKind) (base : Array Keyed) (st : SortSt) (rs : List (List Keyed)) (T : List Keyed) : Prop where
  pm : (arrOf st).Perm base
  kd : kindOf st = kd
  fl : failedOf st = none
  ar : (arrOf st).toList = rs.flatten ++ T
  so : ∀ r ∈ rs, Srt rk r ∧ r ≠ []
  pe : (pendingOf st).toList.map (fun p => (p.1, p.2.1)) = posL 0 (rs.map List.length)
theorem wpS_set {st' : SortSt} {Q : PUnit → SortSt → Prop} (h : Q ⟨⟩ st') : wpS (model prog w) A E s (set st' : StateT SortSt Sem PUnit) Q st := by
  unfold wpS
  rw [StateT.run_set]
  exact wpAny_pure ⟨rfl, h⟩
theorem RN.sz {rs : List (List Keyed)} {T : List Keyed} (h : RN rk kd base st rs T) : (pendingOf st).size = rs.length := by
  have z := congrArg List.length h.pe
  rw [List.length_map, posL_len, List.length_map, Array.length_toList] at z
  exact z
theorem Srt.cat {a b : List Keyed} (ha : Srt rk a) (hb : Srt rk b) (hc : ∀ x ∈ a, ∀ y ∈ b, rk x.1 ≤ rk y.1) : Srt rk (a ++ b) := List.pairwise_append.mpr ⟨ha, hb, hc⟩
theorem Srt.le_last {a : List Keyed} (ha : Srt rk a) {i : Nat} {x y : Keyed} (hx : x ∈ a) (hi : i + 1 = a.length) (hy : a[i]? = some y) : rk x.1 ≤ rk y.1 := by
  obtain ⟨t, ht⟩ := List.getElem?_of_mem hx
  have := (List.getElem?_eq_some_iff.mp ht).1
  exact ha.at_ (by lia) ht hy
theorem Srt.ge_at {a : List Keyed} (ha : Srt rk a) {i : Nat} {x y : Keyed} (hy : a[i]? = some y) (hx : x ∈ a.drop i) : rk y.1 ≤ rk x.1 := by
  obtain ⟨t, ht⟩ := mem_d hx
  exact ha.at_ (by lia) hy ht
theorem to_mat (hL : LtBy prog w A s rk kd base) {rs : List (List Keyed)} {T : List Keyed} (hR : RN rk kd base st rs T) {i : Nat} (hi : i + 1 < rs.length) {Q : Bool → SortSt → Prop}
    (h : ∀ st' rs', RN rk kd base st' rs' T → rs'.length + 1 = rs.length → Q true st') : wpS (model prog w) A E s (mergeAt' i) Q st := by
  obtain ⟨X, a, b, Y, rfl, hX⟩ : ∃ X a b Y, rs = X ++ a :: b :: Y ∧ X.length = i := ⟨rs.take i, rs[i], rs[i + 1], rs.drop (i + 2), by
    rw [← List.drop_eq_getElem_cons hi, ← List.drop_eq_getElem_cons (by lia), List.take_append_drop], by rw [List.length_take]; lia⟩
  have sA := hR.so a (by simp)
  have sB := hR.so b (by simp)
  have la : 0 < a.length := List.length_pos_iff.mpr sA.2
  have lb : 0 < b.length := List.length_pos_iff.mpr sB.2
  have pe := hR.pe
  rw [List.map_append, posL_app, List.map_cons, List.map_cons, Nat.zero_add] at pe
  obtain ⟨F, hF⟩ : ∃ F, F = X.flatten := ⟨_, rfl⟩
  rw [← flat_len, ← hF] at pe
  obtain ⟨PX, P2, e1, e2, e3⟩ := List.map_eq_append_iff.mp pe
  obtain ⟨pa, P3, rfl, e4, e5⟩ := List.map_eq_cons_iff.mp e3
  obtain ⟨pb, P4, rfl, e6, e7⟩ := List.map_eq_cons_iff.mp e5
  obtain ⟨sa, na, pw⟩ := pa
  obtain ⟨sb, nb, pv⟩ := pb
  have hPX : PX.length = i := by
    have z := congrArg List.length e2
    rw [List.length_map, posL_len, List.length_map, hX] at z
    exact z
  obtain ⟨q1, q2⟩ : sa = F.length ∧ na = a.length := ⟨congrArg Prod.fst e4, congrArg Prod.snd e4⟩
  obtain ⟨q3, q4⟩ : sb = F.length + a.length ∧ nb = b.length := ⟨congrArg Prod.fst e6, congrArg Prod.snd e6⟩
  have g1 : (pendingOf st)[i]? = some (sa, na, pw) := by
    rw [← Array.getElem?_toList, e1, List.getElem?_append_right (by lia), hPX, Nat.sub_self]; rfl
  have g2 : (pendingOf st)[i + 1]? = some (sb, nb, pv) := by
    rw [← Array.getElem?_toList, e1, List.getElem?_append_right (by lia), hPX, show i + 1 - i = 1 by lia]; rfl
  obtain ⟨R, hRr⟩ : ∃ R, R = Y.flatten ++ T := ⟨_, rfl⟩
  have ar : (arrOf st).toList = F ++ (a ++ (b ++ R)) := by
    rw [hR.ar, hF, hRr]
    simp only [List.flatten_append, List.flatten_cons, List.append_assoc]
  have hz : (arrOf st).size = F.length + (a.length + (b.length + R.length)) := by
    have z := congrArg List.length ar
    rw [Array.length_toList] at z
    rw [z, List.length_append, List.length_append, List.length_append]
  have atA : ∀ t, t < a.length → (arrOf st)[F.length + t]? = a[t]? := fun t ht => by
    rw [← Array.getElem?_toList, ar, List.getElem?_append_right (by lia), List.getElem?_append_left (by lia)]
    congr 1
    lia
  have atB : ∀ t, t < b.length → (arrOf st)[F.length + a.length + t]? = b[t]? := fun t ht => by
    rw [← Array.getElem?_toList, ar, List.getElem?_append_right (by lia), List.getElem?_append_right (by lia), List.getElem?_append_left (by lia)]
    congr 1
    lia
  have rA : ∀ t (ht : t < a.length), rkA rk (arrOf st) (F.length + t) = rk a[t].1 := fun t ht => by
    unfold rkA
    rw [atA t ht, List.getElem?_eq_getElem ht]
  have rB : ∀ t (ht : t < b.length), rkA rk (arrOf st) (F.length + a.length + t) = rk b[t].1 := fun t ht => by
    unfold rkA
    rw [atB t ht, List.getElem?_eq_getElem ht]
  have inS : ∀ t (ht : t < (arrOf st).size), (arrOf st)[t] ∈ base.toList := fun t ht => (Array.perm_iff_toList_perm.mp hR.pm).mem_iff.mp (by simp)
  have inA : ∀ x ∈ a, x ∈ base.toList := fun x hx => (Array.perm_iff_toList_perm.mp hR.pm).mem_iff.mp (by rw [ar]; simp [hx])
  have inB : ∀ x ∈ b, x ∈ base.toList := fun x hx => (Array.perm_iff_toList_perm.mp hR.pm).mem_iff.mp (by rw [ar]; simp [hx])
  have fin : ∀ (z : SortSt) (c : List Keyed), kindOf z = kd → failedOf z = none → (pendingOf z).toList = PX ++ (sa, na + nb, pw) :: P4 → (arrOf z).toList = F ++ (c ++ R) → c.Perm (a ++ b) → Srt rk c → Q true z := fun z c z1 z2 z3 z4 z5 z6 => by
    refine h z (X ++ c :: Y) ⟨?_, z1, z2, ?_, fun r hr => ?_, ?_⟩ (by simp; lia)
    · refine Array.perm_iff_toList_perm.mpr (List.Perm.trans ?_ (Array.perm_iff_toList_perm.mp hR.pm))
      rw [z4, ar, ← List.append_assoc a b R]
      exact List.Perm.append_left _ (List.Perm.append_right _ z5)
    · rw [z4, hF, hRr]
      simp only [List.flatten_append, List.flatten_cons, List.append_assoc]
    · rcases List.mem_append.mp hr with q | q
      · exact hR.so r (by simp [q])
      · rcases List.mem_cons.mp q with rfl | q
        · refine ⟨z6, fun e => ?_⟩
          rw [e] at z5
          have l := z5.length_eq
          rw [List.length_nil, List.length_append] at l
          lia
        · exact hR.so r (by simp [q])
    · have lc : c.length = a.length + b.length := by rw [z5.length_eq, List.length_append]
      rw [z3, List.map_append, e2, List.map_cons, e7, List.map_append, posL_app, List.map_cons, Nat.zero_add, ← flat_len, ← hF, lc, q1, q2, q4]
      show _ ++ _ :: _ = _ ++ _ :: _
      rw [Nat.add_assoc]
  show wpS (model prog w) A E s ((sortPriv% PySem.Builtin.mergeAt) i) Q st
  refine wpS_bind (wpS_get ?_)
  rw [g1, g2]
  dsimp only
  refine wpS_bind (wpS_set ?_)
  have hp : (((pendingOf st).setIfInBounds i (sa, na + nb, pw)).eraseIdxIfInBounds (i + 1)).toList = PX ++ (sa, na + nb, pw) :: P4 := by
    rw [Array.toList_eraseIdxIfInBounds, Array.toList_setIfInBounds, e1, List.set_append_right _ _ (by lia), hPX, Nat.sub_self, List.eraseIdx_append_of_length_le (by lia), hPX, show i + 1 - i = 1 by lia]
    rfl
  obtain ⟨z0, hz0⟩ : ∃ z0, z0 = SortSt.mk' (kindOf st) (arrOf st) (((pendingOf st).setIfInBounds i (sa, na + nb, pw)).eraseIdxIfInBounds (i + 1)) (gallopOf st) (failedOf st) := ⟨_, rfl⟩
  show wpS _ _ _ _ _ _ (SortSt.mk' (kindOf st) (arrOf st) (((pendingOf st).setIfInBounds i (sa, na + nb, pw)).eraseIdxIfInBounds (i + 1)) (gallopOf st) (failedOf st))
  rw [← hz0]
  have k0 : kindOf z0 = kd := by rw [hz0]; exact hR.kd
  have f0 : failedOf z0 = none := by rw [hz0]; exact hR.fl
  have p0 : (pendingOf z0).toList = PX ++ (sa, na + nb, pw) :: P4 := by rw [hz0]; exact hp
  have a0 : arrOf z0 = arrOf st := by rw [hz0]
  subst q1 q2 q3 q4
  have hsb : F.length + a.length < (arrOf st).size := by lia
  have eB0 : (arrOf st)[F.length + a.length] = b[0] := by
    have z := atB 0 lb
    rw [Nat.add_zero, Array.getElem?_eq_getElem hsb, List.getElem?_eq_getElem lb] at z
    exact Option.some.inj z
  refine wpS_bind (tk_el hsb ?_)
  rw [eB0]
  refine wpS_bind (to_gal hL k0 (inB _ (List.getElem_mem lb)) (by lia) inS la (fun p q hpq hq => ?_) fun k k1 k2 k3 => ?_)
  · rw [rA p (by lia), rA q hq]
    exact sA.1.at_ hpq (List.getElem?_eq_getElem (by lia)) (List.getElem?_eq_getElem hq)
  have k2' : ∀ x ∈ a.take k, rk x.1 ≤ rk b[0].1 := fun x hx => by
    obtain ⟨t, t1, ht⟩ := mem_t hx
    obtain ⟨l1, e⟩ := List.getElem?_eq_some_iff.mp ht
    have z := k2 t t1
    unfold Ahd at z
    rw [rA t l1] at z
    simp at z
    rw [← e]; exact z
  have k3' : ∀ x ∈ a.drop k, rk b[0].1 ≤ rk x.1 := fun x hx => by
    obtain ⟨t, ht⟩ := mem_d hx
    obtain ⟨l1, e⟩ := List.getElem?_eq_some_iff.mp ht
    have z := k3 (k + t) (by lia) l1
    unfold Ahd at z
    rw [rA _ l1] at z
    simp at z
    rw [← e]; exact Int.le_of_lt z
  have b0le : ∀ y ∈ b, rk b[0].1 ≤ rk y.1 := fun y hy => sB.1.ge_at (List.getElem?_eq_getElem lb) (by rw [List.drop_zero]; exact hy)
  dsimp only
  by_cases ek : a.length - k = 0
  · rw [if_pos (by simpa using ek)]
    refine wpS_pure (fin z0 (a ++ b) k0 f0 p0 (by rw [a0, ar, List.append_assoc]) (List.Perm.refl _) (sA.1.cat sB.1 fun x hx y hy => ?_))
    have z := k2' x (by rw [List.take_of_length_le (by lia)]; exact hx)
    exact Int.le_trans z (b0le y hy)
  rw [if_neg (by simpa using ek)]
  have hl1 : a.length - 1 < a.length := by lia
  have hsl : F.length + k + (a.length - k) - 1 < (arrOf st).size := by lia
  have eAl : (arrOf st)[F.length + k + (a.length - k) - 1] = a[a.length - 1] := by
    have z := atA (a.length - 1) hl1
    rw [show F.length + (a.length - 1) = F.length + k + (a.length - k) - 1 by lia, Array.getElem?_eq_getElem hsl, List.getElem?_eq_getElem hl1] at z
    exact Option.some.inj z
  refine wpS_bind (tk_el hsl ?_)
  rw [eAl]
  refine wpS_bind (to_gal hL k0 (inA _ (List.getElem_mem hl1)) (by lia) inS (by lia) (fun p q hpq hq => ?_) fun m m1 m2 m3 => ?_)
  · rw [rB p (by lia), rB q hq]
    exact sB.1.at_ hpq (List.getElem?_eq_getElem (by lia)) (List.getElem?_eq_getElem hq)
  have m2' : ∀ x ∈ b.take m, rk x.1 ≤ rk a[a.length - 1].1 := fun x hx => by
    obtain ⟨t, t1, ht⟩ := mem_t hx
    obtain ⟨l1, e⟩ := List.getElem?_eq_some_iff.mp ht
    have z := m2 t t1
    unfold Ahd at z
    rw [rB t l1] at z
    simp at z
    rw [← e]; exact Int.le_of_lt z
  have m3' : ∀ x ∈ b.drop m, rk a[a.length - 1].1 ≤ rk x.1 := fun x hx => by
    obtain ⟨t, ht⟩ := mem_d hx
    obtain ⟨l1, e⟩ := List.getElem?_eq_some_iff.mp ht
    have z := m3 (m + t) (by lia) l1
    unfold Ahd at z
    rw [rB _ l1] at z
    simp at z
    rw [← e]; exact z
  have aLe : ∀ x ∈ a, rk x.1 ≤ rk a[a.length - 1].1 := fun x hx => sA.1.le_last hx (by lia) (List.getElem?_eq_getElem hl1)
  dsimp only
  by_cases em : m = 0
  · rw [if_pos (by simpa using em)]
    refine wpS_pure (fin z0 (a ++ b) k0 f0 p0 (by rw [a0, ar, List.append_assoc]) (List.Perm.refl _) (sA.1.cat sB.1 fun x hx y hy => ?_))
    exact Int.le_trans (aLe x hx) (m3' y (by rw [em, List.drop_zero]; exact hy))
  rw [if_neg (by simpa using em)]
  have ex : ((arrOf st).extract (F.length + k) (F.length + a.length)).toList = a.drop k := by
    rw [toList_ext, ar, ← List.drop_drop, List.drop_left, List.drop_append_of_le_length (by lia), List.take_append_of_le_length (by rw [List.length_drop]; lia), List.take_of_length_le (by rw [List.length_drop]; lia)]
  have ey : ((arrOf st).extract (F.length + a.length) (F.length + a.length + m)).toList = b.take m := by
    rw [toList_ext, ar, ← List.drop_drop, List.drop_left, List.drop_left, List.take_append_of_le_length (by lia)]
    congr 1
    lia
  generalize hx : (arrOf st).extract (F.length + k) (F.length + a.length) = x at ex
  generalize hy : (arrOf st).extract (F.length + a.length) (F.length + a.length + m) = y at ey
  have lx : x.size = a.length - k := by rw [← Array.length_toList, ex, List.length_drop]
  have ly : y.size = m := by rw [← Array.length_toList, ey, List.length_take]; lia
  have sx : Srt rk (a.drop k) := sA.1.sublist (List.drop_sublist _ _)
  have sy : Srt rk (b.take m) := sB.1.sublist (List.take_sublist _ _)
  have y0 : rkA rk y 0 = rk b[0].1 := by
    unfold rkA
    rw [← Array.getElem?_toList, ey, List.getElem?_take, if_pos (by lia), List.getElem?_eq_getElem lb]
  have xl : rkA rk x (x.size - 1) = rk a[a.length - 1].1 := by
    unfold rkA
    rw [← Array.getElem?_toList, ex, List.getElem?_drop, show k + (x.size - 1) = a.length - 1 by lia, List.getElem?_eq_getElem hl1]
  have c1 : ∀ u ∈ x.toList, u ∈ base.toList := fun u hu => inA u (List.mem_of_mem_drop (by rw [ex] at hu; exact hu))
  have c2 : ∀ u ∈ y.toList, u ∈ base.toList := fun u hu => inB u (List.mem_of_mem_take (by rw [ey] at hu; exact hu))
  have c3 : ∀ u ∈ x.toList, rkA rk y 0 ≤ rk u.1 := fun u hu => by rw [y0]; exact k3' u (by rw [ex] at hu; exact hu)
  have c4 : ∀ u ∈ y.toList, rk u.1 ≤ rkA rk x (x.size - 1) := fun u hu => by rw [xl]; exact m2' u (by rw [ey] at hu; exact hu)
  by_cases hle : a.length - k ≤ m
  case' pos =>
    rw [if_pos hle]
    refine wpS_bind (to_mlo hL k0 c1 c2 (by rw [ex]; exact sx) (by rw [ey]; exact sy) (by lia) (by lia) c3 c4 fun mg z hz hm => ?_)
  case' neg =>
    rw [if_neg hle]
    refine wpS_bind (to_mhi hL k0 c1 c2 (by rw [ex]; exact sx) (by rw [ey]; exact sy) (by lia) (by lia) c3 c4 fun mg z hz hm => ?_)
  all_goals
    rw [ex, ey] at hm
    obtain ⟨h5, h6⟩ := hm
    have h1 := hz.1.trans k0
    have h2 := hz.2.1.trans a0
    have h3 := hz.2.2.1
    have h4 := hz.2.2.2.trans f0
    have lm : mg.toList.length = a.length - k + m := by rw [h5.length_eq, List.length_append, List.length_drop, List.length_take]; lia
    refine wpS_bind (wpS_modify (wpS_bind (wpS_get (wpS_pure ?_))))
    show Q (failedOf z).isNone _
    rw [h4]
    have pn : (a.take k ++ (mg.toList ++ b.drop m)).Perm (a ++ b) := by
      have z := List.Perm.append_left (a.take k) (List.Perm.append_right (b.drop m) h5)
      refine z.trans (List.Perm.of_eq ?_)
      rw [List.append_assoc, List.take_append_drop, ← List.append_assoc, List.take_append_drop]
    refine fin _ (a.take k ++ (mg.toList ++ b.drop m)) h1 h4 (by rw [← p0, ← h3]) ?_ pn ?_
    · show (List.foldl (fun a x => a.setIfInBounds (F.length + k + x.snd) x.fst) (arrOf z) mg.toList.zipIdx).toList = _
      rw [h2, sets_at (F.length + k) mg.toList 0 _ (by lia), ar, lm]
      have t1 : (F ++ (a ++ (b ++ R))).take (F.length + k + 0) = F ++ a.take k := by
        rw [Nat.add_zero, List.take_length_add_append, List.take_append_of_le_length k1]
      have t2 : (F ++ (a ++ (b ++ R))).drop (F.length + k + 0 + (a.length - k + m)) = b.drop m ++ R := by
        rw [show F.length + k + 0 + (a.length - k + m) = F.length + (a.length + m) by lia, List.drop_length_add_append, List.drop_length_add_append, List.drop_append_of_le_length m1]
      rw [t1, t2]
      simp only [List.append_assoc]
    · have tk : Srt rk (a.take k) := sA.1.sublist (List.take_sublist _ _)
      have dm : Srt rk (b.drop m) := sB.1.sublist (List.drop_sublist _ _)
      have mm : ∀ u, u ∈ mg.toList → u ∈ a.drop k ∨ u ∈ b.take m := fun u hu => List.mem_append.mp (h5.mem_iff.mp hu)
      have sAd := sA.1
      rw [← List.take_append_drop k a] at sAd
      have sBd := sB.1
      rw [← List.take_append_drop m b] at sBd
      refine tk.cat (h6.cat dm fun u hu v hv => ?_) fun u hu v hv => ?_
      · rcases mm u hu with q | q
        · exact Int.le_trans (aLe u (List.mem_of_mem_drop q)) (m3' v hv)
        · exact (List.pairwise_append.mp sBd).2.2 u q v hv
      · rcases List.mem_append.mp hv with q | q
        · rcases mm v q with q | q
          · exact (List.pairwise_append.mp sAd).2.2 u hu v q
          · exact Int.le_trans (k2' u hu) (b0le v (List.mem_of_mem_take q))
        · exact Int.le_trans (k2' u hu) (b0le v (List.mem_of_mem_drop q))
end
end L2
set_option Elab.async false
set_option linter.all false
set_option maxRecDepth 100000
set_option maxHeartbeats 4000000
namespace L2
open PySem PySem.Spec PyProof.Rows
section
variable {prog : Program} {w : World} {A : Around} {E : Value → Shared → Prop} {s : Shared} {rk : Value → Int} {kd : SortKind} {base : Array Keyed} {st : SortSt}
theorem wp_st {α : Type} {m : StateT SortSt Sem α} {Q : α → SortSt → Prop} {P : SortSt → Prop} (hP : P st) (h : ∀ z, P z → wpS (model prog w) A E s m Q z) : wpS (model prog w) A E s m Q st := h st hP
theorem map_mod {α β : Type} (g : α → β) (f : α → α) (hg : ∀ x, g (f x) = g x) (l : List α) (i : Nat) : (l.modify i f).map g = l.map g := by
  refine List.ext_getElem? fun j => ?_
  rw [List.getElem?_map, List.getElem?_map, List.getElem?_modify]
  cases l[j]? with
  | none => rfl
  | some x =>
    show some (g (if i = j then f x else x)) = some (g x)
    split
    · rw [hg]
    · rfl
theorem RN.flen {rs : List (List Keyed)} {T : List Keyed} (h : RN rk kd base st rs T) : rs.flatten.length + T.length = base.size := by
  have z := congrArg List.length h.ar
  rw [List.length_append, Array.length_toList, h.pm.size_eq] at z
  exact z.symm
theorem cnt_le : ∀ {rs : List (List Keyed)}, (∀ r ∈ rs, r ≠ []) → rs.length ≤ rs.flatten.length
  | [], _ => Nat.le_refl _
  | r :: rs, h => by
    have z := cnt_le (rs := rs) fun x hx => h x (List.mem_cons_of_mem _ hx)
    have y := List.length_pos_iff.mpr (h r List.mem_cons_self)
    rw [List.flatten_cons, List.length_append, List.length_cons]
    lia
theorem to_all (hL : LtBy prog w A s rk kd base) (hB : TB kd base st) {Q : Unit → SortSt → Prop}
    (h : ∀ st', (arrOf st').Perm base → failedOf st' = none → Asc rk st' base.size → Q () st') : wpS (model prog w) A E s sortRuns' Q st := by
  have fin : ∀ (z : SortSt) (rs : List (List Keyed)), RN rk kd base z rs [] → rs.length ≤ 1 → Q () z := fun z rs hR hl => by
    refine h z hR.pm hR.fl fun i j hij hj => ?_
    have so : Srt rk (arrOf z).toList := by
      rw [hR.ar, List.append_nil]
      match rs, hR.so, hl with
      | [], _, _ => exact List.Pairwise.nil
      | [r], h, _ => rw [List.flatten_singleton]; exact (h r List.mem_cons_self).1
    have zz := hR.pm.size_eq
    rw [kA_at (show i < (arrOf z).size by lia), kA_at (show j < (arrOf z).size by lia)]
    refine so.at_ hij ?_ ?_
    · rw [Array.getElem?_toList, Array.getElem?_eq_getElem]
    · rw [Array.getElem?_toList, Array.getElem?_eq_getElem]
  show wpS (model prog w) A E s (sortPriv% PySem.Builtin.sortRuns) Q st
  refine wpS_bind (wpS_get ?_)
  have en : (arrOf st).size = base.size := hB.sz
  generalize hn : base.size = n at en
  dsimp only
  simp only [en]
  refine wpS_bind (wpS_mono (wpS_forRange (I := fun x c z => ∃ rs T lo, c = (none, lo) ∧ RN rk kd base z rs T ∧ lo = rs.flatten.length ∧ x ≤ lo) (Q := fun c z => ∃ rs lo, c = (none, lo) ∧ RN rk kd base z rs []) (fun x c z a1 a2 a3 => ?_) (fun c z a3 => ?_) ⟨[], (arrOf st).toList, 0, rfl, ⟨hB.pm, hB.kd, hB.fl, rfl, (fun _ h => nomatch h), by rw [hB.pe]; rfl⟩, rfl, Nat.le_refl _⟩) fun c z a3 => ?_)
  · obtain ⟨rs, T, lo, rfl, hR, hlo, hxl⟩ := a3
    have hf := hR.flen
    dsimp only
    by_cases e : lo ≥ n
    · rw [if_pos e]
      have eT : T = [] := List.eq_nil_of_length_eq_zero (by lia)
      subst eT
      exact wpS_pure ⟨rs, lo, rfl, hR⟩
    rw [if_neg e]
    refine wpS_bind (to_run hL (lo := lo) (pre := arrOf z) (pe := pendingOf z) ⟨hR.pm, hR.kd, hR.fl, rfl, fun _ _ => rfl⟩ (by lia) (by lia) fun k z2 b2 k1 k2 u2 => ?_)
    dsimp only
    by_cases hlt : k < (sortPriv% PySem.Builtin.minRun) n n 0
    case' pos =>
      rw [if_pos hlt]
      refine wpS_bind (wpS_lift (wpAny_rule ⟨rfl, wpS_bind (to_bin hL b2 (by lia) (by lia) u2 fun z3 b3 u3 => ?_)⟩))
      rw [if_neg (by decide)]
      have hP : TQ kd base lo (arrOf z) (pendingOf z) z3 ∧ 1 ≤ min (n - lo) ((sortPriv% PySem.Builtin.minRun) n n 0) ∧ lo + min (n - lo) ((sortPriv% PySem.Builtin.minRun) n n 0) ≤ n ∧ AO rk z3 lo (min (n - lo) ((sortPriv% PySem.Builtin.minRun) n n 0)) := ⟨b3, by lia, by lia, u3⟩
      generalize min (n - lo) ((sortPriv% PySem.Builtin.minRun) n n 0) = m at hP ⊢
    case' neg =>
      rw [if_neg hlt]
      have hP : TQ kd base lo (arrOf z) (pendingOf z) z2 ∧ 1 ≤ k ∧ lo + k ≤ n ∧ AO rk z2 lo k := ⟨b2, k1, by lia, u2⟩
      generalize k = m at hP ⊢
      generalize z2 = z3 at hP ⊢
    all_goals
      obtain ⟨b3, m1, m2, u3⟩ := hP
      have sz3 : (arrOf z3).toList.length = n := by rw [Array.length_toList, b3.sz, hn]
      obtain ⟨r, hr⟩ : ∃ r, r = ((arrOf z3).toList.drop lo).take m := ⟨_, rfl⟩
      obtain ⟨T', hT'⟩ : ∃ T', T' = (arrOf z3).toList.drop (lo + m) := ⟨_, rfl⟩
      have lr : r.length = m := by rw [hr, List.length_take, List.length_drop, sz3]; lia
      have lT : T'.length = n - (lo + m) := by rw [hT', List.length_drop, sz3]
      have ar3 : (arrOf z3).toList = rs.flatten ++ (r ++ T') := by
        have t1 : (arrOf z3).toList.take lo = rs.flatten := by
          have t0 : (arrOf z).toList.take lo = rs.flatten := by rw [hR.ar, hlo, List.take_left]
          rw [← t0]
          refine List.ext_getElem? fun p => ?_
          rw [List.getElem?_take, List.getElem?_take]
          split
          · next hp =>
            rw [Array.getElem?_toList, Array.getElem?_toList]
            exact b3.fr p hp
          · rfl
        rw [← t1, hr, hT', ← List.drop_drop, List.take_append_drop, List.take_append_drop]
      have sr : Srt rk r := List.pairwise_iff_getElem.mpr fun i j hi hj hij => by
        rw [lr] at hi hj
        have g : ∀ t (ht : t < r.length), rk r[t].1 = kA rk z3 (lo + t) := fun t ht => by
          have hlt : lo + t < (arrOf z3).size := by rw [b3.sz]; lia
          rw [kA_at hlt]
          have e : r[t]? = some (arrOf z3)[lo + t] := by
            rw [hr, List.getElem?_take, if_pos (by lia), List.getElem?_drop, Array.getElem?_toList, Array.getElem?_eq_getElem hlt]
          rw [(List.getElem?_eq_some_iff.mp e).2]
        rw [g, g]
        exact u3 i j (Nat.le_of_lt hij) hj
      have R3 : RN rk kd base z3 rs (r ++ T') := ⟨b3.pm, b3.kd, b3.fl, ar3, hR.so, by rw [b3.pe]; exact hR.pe⟩
      refine wpS_bind (wpS_get ?_)
      obtain hb | ⟨⟨s1, n1, p1⟩, hb⟩ : (pendingOf z3).back? = none ∨ ∃ q, (pendingOf z3).back? = some q := by
        cases (pendingOf z3).back? with
        | none => exact .inl rfl
        | some q => exact .inr ⟨q, rfl⟩
      case' inl =>
        rw [hb]
        have hP4 : ∃ rs, RN rk kd base z3 rs (r ++ T') := ⟨rs, R3⟩
        generalize z3 = z4 at hP4 ⊢
      case' inr =>
        rw [hb]
        dsimp only
        refine wpS_bind (wpS_mono (wpS_forRange (I := fun x c z => c = (none, ()) ∧ ∃ rs, RN rk kd base z rs (r ++ T')) (Q := fun c z => c = (none, ()) ∧ ∃ rs, RN rk kd base z rs (r ++ T')) (fun y c z b1 b2 b3 => ?_) (fun c z b3 => b3) ⟨rfl, rs, R3⟩) fun c z b3 => ?_)
        · obtain ⟨rfl, rs, hR⟩ := b3
          refine wpS_bind (wpS_get ?_)
          have hp := hR.sz
          by_cases g : (pendingOf z).size > 1
          · rw [if_pos g, Array.getElem?_eq_getElem (by lia)]
            generalize (pendingOf z)[(pendingOf z).size - 2] = q
            obtain ⟨q1, q2, q3⟩ := q
            dsimp only
            split
            · exact wpS_pure ⟨rfl, rs, hR⟩
            · refine wpS_bind (to_mat hL hR (by lia) fun z' rs' hR' _ => ?_)
              rw [if_neg (by decide)]
              exact wpS_pure ⟨rfl, rs', hR'⟩
          · rw [if_neg g]
            exact wpS_pure ⟨rfl, rs, hR⟩
        obtain ⟨rfl, rs, hR⟩ := b3
        refine wpS_bind (wpS_modify (wp_st (P := fun z => ∃ rs, RN rk kd base z rs (r ++ T')) ⟨rs, hR.pm, hR.kd, hR.fl, hR.ar, hR.so, ?_⟩ fun z4 hP4 => ?_))
        · rw [← hR.pe]
          show List.map _ (Array.toList (Array.modify _ _ _)) = _
          rw [Array.toList_modify]
          refine map_mod _ _ ?_ _ _
          intro x
          rfl
      all_goals
        obtain ⟨rs4, R4⟩ := hP4
        have f4 := R4.flen
        rw [List.length_append, lr, lT] at f4
        refine wpS_bind (wpS_modify (wpS_pure ⟨rs4 ++ [r], T', lo + m, rfl, ⟨R4.pm, R4.kd, R4.fl, ?_, fun u hu => ?_, ?_⟩, ?_, by lia⟩))
        · show (arrOf z4).toList = _
          rw [R4.ar, List.flatten_append, List.flatten_singleton, List.append_assoc]
        · rcases List.mem_append.mp hu with q | q
          · exact R4.so u q
          · rw [List.mem_singleton.mp q]
            exact ⟨sr, fun e => by rw [e] at lr; simp at lr; lia⟩
        · show ((pendingOf z4).push (lo, m, 0)).toList.map _ = _
          rw [Array.toList_push, List.map_append, R4.pe, List.map_append, posL_app, Nat.zero_add, ← flat_len, show rs4.flatten.length = lo by lia]
          show _ ++ [(lo, m)] = _ ++ [(lo, r.length)]
          rw [lr]
        · rw [List.flatten_append, List.length_append, List.flatten_singleton, lr]; lia
  · obtain ⟨rs, T, lo, rfl, hR, hlo, hxl⟩ := a3
    have hf := hR.flen
    have eT : T = [] := List.eq_nil_of_length_eq_zero (by lia)
    subst eT
    exact ⟨rs, lo, rfl, hR⟩
  · obtain ⟨rs, lo, rfl, hR⟩ := a3
    dsimp only
    have hf := hR.flen
    have hc := cnt_le fun r hr => (hR.so r hr).2
    rw [List.length_nil] at hf
    refine wpS_bind (wpS_mono (wpS_forRange (I := fun x c z => c = (none, ()) ∧ ∃ rs, RN rk kd base z rs [] ∧ rs.length + x ≤ n) (Q := fun c z => c = (none, ()) ∧ ∃ rs, RN rk kd base z rs [] ∧ rs.length ≤ 1) (fun y c z b1 b2 b3 => ?_) (fun c z b3 => ?_) ⟨rfl, rs, hR, by lia⟩) fun c z b3 => ?_)
    · obtain ⟨rfl, rs, hR, hl⟩ := b3
      have hp := hR.sz
      refine wpS_bind (wpS_get ?_)
      by_cases g : (pendingOf z).size ≤ 1
      · rw [if_pos g]
        exact wpS_pure ⟨rfl, rs, hR, by lia⟩
      · rw [if_neg g]
        refine wpS_bind (to_mat hL hR ?_ fun z' rs' hR' hl' => ?_)
        · split <;> lia
        · rw [if_neg (by decide)]
          exact wpS_pure ⟨rfl, rs', hR', by lia⟩
    · obtain ⟨rfl, rs, hR, hl⟩ := b3
      exact ⟨rfl, rs, hR, by lia⟩
    · obtain ⟨rfl, rs, hR, hl⟩ := b3
      exact wpS_pure (fin z rs hR hl)
end
end L2
set_option Elab.async false
set_option linter.all false
set_option maxRecDepth 100000
set_option maxHeartbeats 4000000
namespace L2
open PySem PySem.Spec PyProof.Rows
open PySem.AutoSeq1 (wpAny_loadPart')
open PySem.MeetsSeq PySem.MeetsSeq2 PySem.MeetsSeq3
def CmP (op : CmpOp) (P : Program) (w : World) (A : Around) (s : Shared) (y x : Value) (b : Bool) : Prop := ∀ (E : Value → Shared → Prop) (Q : Value → Shared → Prop), Q (.bool b) s → wpAny (model P w) A (richCompare op y x) Q E s
def scn (f g : Nat → Bool) (fin : Bool) : List Nat → Bool
  | [] => fin
  | i :: r => if f i = true then scn f g fin r else g i
section
variable {P : Program} {w : World}
theorem tupLtP (l m : Addr) (xs ys : Array Value) (n1 n2 : Nat) (d1 d2 : Option Addr) (s1 s2 : Array (Option Value)) (f g : Nat → Bool) :
    MeetsIn P w (Builtin.«tuple.__lt__» ⟨[.ref l, .ref m], []⟩) (fun A R s =>
      s.heap.get? l = some { cls := .type "tuple", dict := d1, data := .seq xs n1, slots := s1 } ∧ s.heap.get? m = some { cls := .type "tuple", dict := d2, data := .seq ys n2, slots := s2 } ∧
      (∀ j (g1 : j < xs.size) (g2 : j < ys.size), EqP P w A.in1 s xs[j] ys[j] (f j)) ∧ (∀ j (g1 : j < xs.size) (g2 : j < ys.size), f j = false → CmP .Lt P w A.in1 s xs[j] ys[j] (g j)) ∧
      R (.ok (.ret (.bool (scn f g (decide (xs.size < ys.size)) (List.range (min xs.size ys.size)))))) s) :=
  .of_wp fun A R s hyp => by
    obtain ⟨hp, gg, dr, tk, os⟩ := s
    obtain ⟨e1, e2, he, hc, fin⟩ := hyp
    have sub := AutoSeq1.sub_tuple_tuple
    have len : (xs.toList.zip ys.toList).length = min xs.size ys.size := by simp
    wp_walk using wpAny_loadPart' e1, wpAny_loadPart' e2, wpAny_forIn_list _ (fun more acc st => acc.1 = none ∧ st = ⟨hp, gg, dr, tk, os⟩ ∧ ∃ i, more = (xs.toList.zip ys.toList).drop i ∧
      R (.ok (.ret (.bool (scn f g (decide (xs.size < ys.size)) ((List.range (min xs.size ys.size)).drop i))))) ⟨hp, gg, dr, tk, os⟩) _
    case turn =>
      rintro ⟨y, x⟩ more acc st ⟨ha, rfl, i, hi, hR⟩
      have lt : i < (xs.toList.zip ys.toList).length := by
        rcases Nat.lt_or_ge i (xs.toList.zip ys.toList).length with z | z
        · exact z
        · rw [List.drop_of_length_le z] at hi
          cases hi
      have lm : i < min xs.size ys.size := len ▸ lt
      have lx : i < xs.size := Nat.lt_of_lt_of_le lm (Nat.min_le_left _ _)
      have ly : i < ys.size := Nat.lt_of_lt_of_le lm (Nat.min_le_right _ _)
      rw [List.drop_eq_getElem_cons lt] at hi
      injection hi with h1 h2
      have q1 : y = xs[i] := by simpa using congrArg Prod.fst h1
      have q2 : x = ys[i] := by simpa using congrArg Prod.snd h1
      subst q1 q2
      have dr1 : (List.range (min xs.size ys.size)).drop i = i :: (List.range (min xs.size ys.size)).drop (i + 1) := by simp [List.drop_eq_getElem_cons, lm]
      rw [dr1] at hR
      unfold scn at hR
      refine wpAny_bind (he i lx ly _ _ ?_)
      cases hf : f i with
      | true =>
        rw [if_pos hf] at hR
        wp_walk
        exact ⟨rfl, rfl, i + 1, h2, hR⟩
      | false =>
        rw [if_neg (by rw [hf]; decide)] at hR
        have hcc := hc i lx ly hf
        unfold CmP at hcc
        wp_walk using hcc
        exact ⟨_, rfl, hR⟩
    case fin =>
      rintro ⟨c1, c2⟩ st ⟨ha, rfl, i, hi, hR⟩
      simp only at ha
      subst ha
      have ge : min xs.size ys.size ≤ i := by
        rcases Nat.lt_or_ge i (xs.toList.zip ys.toList).length with z | z
        · rw [List.drop_eq_getElem_cons z] at hi
          cases hi
        · exact len ▸ z
      rw [List.drop_of_length_le (by simpa using ge)] at hR
      have hR' : R (.ok (.ret (.bool (decide (xs.size < ys.size))))) ⟨hp, gg, dr, tk, os⟩ := hR
      wp_walk
      exact ⟨_, rfl, by simpa [Builtin.Tuple.tupleCompareSizes] using hR'⟩
    case h =>
      exact ⟨rfl, rfl, 0, rfl, by simpa using fin⟩
theorem loopLtC (l m : Addr) (xs ys : Array Value) (n1 n2 : Nat) (d1 d2 : Option Addr) (s1 s2 : Array (Option Value)) (f g : Nat → Bool) : ∀ (k i : Nat), min xs.size ys.size - i = k →
    MeetsIn P w (Builtin.«list.__eq__.loop» ⟨[.ref l, .ref m, rawInt i, rawInt 0], []⟩) (fun A R s =>
      s.heap.get? l = some { cls := .type "list", dict := d1, data := .seq xs n1, slots := s1 } ∧ s.heap.get? m = some { cls := .type "list", dict := d2, data := .seq ys n2, slots := s2 } ∧
      (∀ j (g1 : j < xs.size) (g2 : j < ys.size), EqP P w A.in1 s xs[j] ys[j] (f j)) ∧ (∀ j (g1 : j < xs.size) (g2 : j < ys.size), f j = false → CmP .Lt P w A.in1 s xs[j] ys[j] (g j)) ∧
      R (.ok (.ret (.bool (scn f g (decide (xs.size < ys.size)) ((List.range (min xs.size ys.size)).drop i))))) s)
  | 0, i, hk => by
    intro A R s hyp
    obtain ⟨hp, gg, dr, tk, os⟩ := s
    obtain ⟨e1, e2, he, hc, fin⟩ := hyp
    rw [List.drop_of_length_le (by rw [List.length_range]; lia)] at fin
    have fin' : R (.ok (.ret (.bool (decide (xs.size < ys.size))))) ⟨hp, gg, dr, tk, os⟩ := fin
    rcases Nat.lt_or_ge i xs.size with hx | hx
    · have x1 : xs[((i : Nat) : Int).toNat]? = some xs[i] := by simp [hx]
      have x2 : ys[((i : Nat) : Int).toNat]? = none := by simp; lia
      wp_walk using wpAny_loadPart' e1, wpAny_loadPart' e2
      rw [x1, x2]
      wp_walk using wpAny_loadPart' e1, wpAny_loadPart' e2
      exact fin'
    · have x1 : xs[((i : Nat) : Int).toNat]? = none := by simp; lia
      wp_walk using wpAny_loadPart' e1, wpAny_loadPart' e2
      rw [x1]
      wp_walk using wpAny_loadPart' e1, wpAny_loadPart' e2
      exact fin'
  | k + 1, i, hk => by
    intro A R s hyp
    have ih := loopLtC l m xs ys n1 n2 d1 d2 s1 s2 f g k (i + 1) (by lia)
    obtain ⟨hp, gg, dr, tk, os⟩ := s
    obtain ⟨e1, e2, he, hc, fin⟩ := hyp
    have l1 : i < xs.size := by lia
    have l2 : i < ys.size := by lia
    have lm : i < min xs.size ys.size := by lia
    have dr1 : (List.range (min xs.size ys.size)).drop i = i :: (List.range (min xs.size ys.size)).drop (i + 1) := by simp [List.drop_eq_getElem_cons, lm]
    rw [dr1] at fin
    unfold scn at fin
    have x1 : xs[((i : Nat) : Int).toNat]? = some xs[i] := by simp [l1]
    have x2 : ys[((i : Nat) : Int).toNat]? = some ys[i] := by simp [l2]
    have x4 : ((i : Int) + 1) = ((i + 1 : Nat) : Int) := by push_cast; rfl
    wp_walk using wpAny_loadPart' e1, wpAny_loadPart' e2
    rw [x1, x2]
    refine wpAny_bind (he i l1 l2 _ _ ?_)
    cases hf : f i with
    | true =>
      rw [if_pos hf] at fin
      wp_walk
      rw [x4]
      refine ⟨plainId_quiet eqL1 _, codeAny_builtin entry_eq_loop ?_⟩
      rw [Around.under_plainId eqL1 _]
      exact ih A R _ ⟨e1, e2, he, hc, fin⟩
    | false =>
      rw [if_neg (by rw [hf]; decide)] at fin
      wp_walk using wpAny_loadPart' e1, wpAny_loadPart' e2
      rw [x1, x2]
      refine wpAny_bind (hc i l1 l2 hf _ _ ?_)
      wp_walk
      exact fin
theorem lstLtC (l m : Addr) (xs ys : Array Value) (n1 n2 : Nat) (d1 d2 : Option Addr) (s1 s2 : Array (Option Value)) (f g : Nat → Bool) :
    MeetsIn P w (Builtin.«list.__lt__» ⟨[.ref l, .ref m], []⟩) (fun A R s =>
      s.heap.get? l = some { cls := .type "list", dict := d1, data := .seq xs n1, slots := s1 } ∧ s.heap.get? m = some { cls := .type "list", dict := d2, data := .seq ys n2, slots := s2 } ∧
      (∀ j (g1 : j < xs.size) (g2 : j < ys.size), EqP P w A.in1 s xs[j] ys[j] (f j)) ∧ (∀ j (g1 : j < xs.size) (g2 : j < ys.size), f j = false → CmP .Lt P w A.in1 s xs[j] ys[j] (g j)) ∧
      R (.ok (.ret (.bool (scn f g (decide (xs.size < ys.size)) (List.range (min xs.size ys.size)))))) s) := by
  intro A R s hyp
  obtain ⟨hp, gg, dr, tk, os⟩ := s
  obtain ⟨e1, e2, he, hc, fin⟩ := hyp
  have q1 := AutoSeq1.sub_list_list
  wp_walk using wpAny_loadPart' e1, wpAny_loadPart' e2
  refine ⟨plainId_quiet eqL1 _, codeAny_builtin entry_eq_loop ?_⟩
  rw [Around.under_plainId eqL1 _]
  exact loopLtC l m xs ys n1 n2 d1 d2 s1 s2 f g _ 0 rfl A R _ ⟨e1, e2, he, hc, by simpa using fin⟩
theorem CmP.strLt {A : Around} {s : Shared} {a b : Str} {t u : Tok} : CmP .Lt P w A s (.str a t) (.str b u) (decide (a.cps.toList < b.cps.toList)) := fun E Q q =>
  richCompare_gives (op := .Lt) (typeIs_str _ _ _) (typeIs_str _ _ _) F.slot_str_lt F.entry_str_lt (F.args_str_lt_2 _ _) (gives_str_lt _ _ _ _) (fun e => nomatch e) q
theorem CmP.tupLt {A : Around} {s : Shared} {l m : Addr} {xs ys : Array Value} {f g : Nat → Bool} (hl : s.heap.IsTuple l xs) (hm : s.heap.IsTuple m ys) (hu : A.units < cLine)
    (he : ∀ j (g1 : j < xs.size) (g2 : j < ys.size), EqP P w A.in1 s xs[j] ys[j] (f j)) (hc : ∀ j (g1 : j < xs.size) (g2 : j < ys.size), f j = false → CmP .Lt P w A.in1 s xs[j] ys[j] (g j)) : CmP .Lt P w A s (.ref l) (.ref m) (scn f g (decide (xs.size < ys.size)) (List.range (min xs.size ys.size))) := fun E Q q => by
  obtain ⟨⟨c1, d1, a1, s1⟩, o1, k1, n1, t1⟩ := id hl
  obtain ⟨⟨c2, d2, a2, s2⟩, o2, k2, n2, t2⟩ := id hm
  simp only at k1 t1 k2 t2
  subst k1 t1 k2 t2
  refine wpAny_richCompare_same_room (op := .Lt) ⟨_, o1, rfl⟩ ⟨_, o2, rfl⟩ PySem.F.slot_tuple_lt (call_meetsIn PySem.F.slot_tuple_lt ⟨_, o1, rfl⟩ PySem.F.entry_tuple_lt (PySem.F.args_tuple_lt_2 _ _) (tupLtP l m xs ys n1 n2 d1 d2 s1 s2 f g) ⟨o1, o2, he, hc, ?_⟩) hu
  exact ⟨(fun z => nomatch z), q⟩
end
end L2
set_option Elab.async false
set_option linter.all false
set_option maxRecDepth 100000
set_option maxHeartbeats 4000000
namespace L2
open PySem PySem.Spec PyProof.Rows
section
variable {P : Program} {w : World} {A : Around} {E : Value → Shared → Prop} {s : Shared}
theorem sort_by2 {a : Addr} {vs : List Value} {n : Nat} {kd : SortKind} {rk : Value → Int} {Q : Fin → Shared → Prop} (ho : s.heap.get? a = some (seqObj "list" vs.toArray n)) (h64 : vs.length ≤ sizeLine)
    (hk : 2 ≤ vs.length → ∀ h6 : Heap, h6 = ((s.heap.update a (Obj.mapSeq fun _ => #[])).push (seqObj "tuple" vs.toArray 0)).push (seqObj "list" #[] 0) → (∀ Q' : SortKind → Shared → Prop, Q' kd { s with heap := h6 } → wpAny (model P w) A (keyKind' vs.toArray) Q' E { s with heap := h6 }) ∧ LtBy P w A { s with heap := h6 } rk kd (pairsOf vs))
    (h : ∀ out : Array Value, out.toList.Perm vs → (∀ (i j : Nat) (u v : Value), i ≤ j → out[i]? = some u → out[j]? = some v → rk u ≤ rk v) → Q (.done (.ret .none)) { s with heap := sortedHeap s.heap a vs out }) :
    wpAny (model P w) A (Builtin.«list.sort» ⟨[.ref a], []⟩) Q E s := by
  have hlt : a < s.heap.objs.size := Heap.lt_size ho
  have psz := pairsOf_size vs
  rw [list_sort_plain]
  refine wpAny_bind (listItems_at ho rfl (wpAny_bind (listUpdate_at ho rfl ?_)))
  obtain ⟨e1, o1⟩ : ∃ e1, (s.heap.update a (Obj.mapSeq fun _ => #[])).get? a = some (seqObj "list" #[] e1) := ⟨_, get?_update_seq ho (fun _ => #[])⟩
  refine wpAny_bind (seqEpoch_at o1 rfl (wpAny_bind (wpAny_newTuple (wpAny_bind (wpAny_newList (wpAny_holding ?_))))))
  obtain ⟨h6, e6⟩ : ∃ h6 : Heap, h6 = ((s.heap.update a (Obj.mapSeq fun _ => #[])).push (seqObj "tuple" vs.toArray 0)).push (seqObj "list" #[] 0) := ⟨_, rfl⟩
  have o6 : h6.get? a = some (seqObj "list" #[] e1) := by
    rw [e6]
    exact Heap.get?_push_of_some _ (Heap.get?_push_of_some _ o1)
  show wpAny (model P w) A _ Q E { s with heap := ((s.heap.update a (Obj.mapSeq fun _ => #[])).push (seqObj "tuple" vs.toArray 0)).push (seqObj "list" #[] 0) }
  rw [← e6]
  dsimp only
  have same : ∀ p ∈ (pairsOf vs).toList, p.1 = p.2 := fun p hp => by
    rw [pairsOf_toList] at hp
    exact (mem_zip_self hp).1
  have fin : ∀ st' : SortSt, (arrOf st').Perm (pairsOf vs) → Asc rk st' (pairsOf vs).size → Q (.done (.ret .none)) { s with heap := sortedHeap s.heap a vs ((arrOf st').map (·.2)) } := fun st' pm up => by
    have pl := Array.perm_iff_toList_perm.mp pm
    refine h _ ?_ fun i j u v hij hu hv => ?_
    · rw [Array.toList_map]
      refine (pl.map (·.2)).trans (List.Perm.of_eq ?_)
      rw [pairsOf_toList]
      exact List.map_snd_zip (Nat.le_refl _)
    · rw [Array.getElem?_map] at hu hv
      obtain ⟨p, hp, rfl⟩ := Option.map_eq_some_iff.mp hu
      obtain ⟨q, hq, rfl⟩ := Option.map_eq_some_iff.mp hv
      have li : i < (arrOf st').size := by
        rcases Nat.lt_or_ge i (arrOf st').size with z | z
        · exact z
        · rw [Array.getElem?_eq_none z] at hp; cases hp
      have lj : j < (arrOf st').size := by
        rcases Nat.lt_or_ge j (arrOf st').size with z | z
        · exact z
        · rw [Array.getElem?_eq_none z] at hq; cases hq
      have z := up i j hij (by rw [← pm.size_eq]; exact lj)
      rw [kA_at li, kA_at lj] at z
      rw [Array.getElem?_eq_getElem li] at hp
      rw [Array.getElem?_eq_getElem lj] at hq
      have m1 : p ∈ (pairsOf vs).toList := pl.mem_iff.mp (by rw [← Option.some.inj hp]; simp)
      have m2 : q ∈ (pairsOf vs).toList := pl.mem_iff.mp (by rw [← Option.some.inj hq]; simp)
      rw [← same p m1, ← same q m2, ← Option.some.inj hp, ← Option.some.inj hq]
      exact z
  by_cases h2 : vs.toArray.size < 2
  · rw [if_pos h2, if_pos h2]
    refine wpAny_bind (wpAny_pure ?_)
    rw [StateT.run_pure]
    refine wpAny_bind (wpAny_pure ?_)
    dsimp only
    refine wpAny_bind (seqEpoch_at o6 rfl ?_)
    refine wpAny_bind (listUpdate_at o6 rfl ?_ (hsz2 := by rw [Array.size_map]; show (pairsOf vs).size ≤ _; lia))
    simp only [bne_self_eq_false, Bool.false_eq_true, if_false]
    have z := fin (SortSt.mk' general' (vs.toArray.zip vs.toArray) #[] 7 none) (Array.Perm.refl _) (fun i j hij hj => by
      have : vs.toArray.size = vs.length := by simp
      rw [show i = j by lia]; exact Int.le_refl _)
    unfold sortedHeap at z
    rw [← e6] at z
    exact wpAny_pure z
  · rw [if_neg h2, if_neg h2]
    have hl2 : 2 ≤ vs.length := by have : vs.toArray.size = vs.length := by simp
                                   lia
    obtain ⟨hk1, hk2⟩ := hk hl2 h6 e6
    refine wpAny_bind (hk1 _ ?_)
    refine wpAny_bind (wpAny_mono (to_all (base := pairsOf vs) (st := SortSt.mk' kd (vs.toArray.zip vs.toArray) #[] 7 none) (Q := fun _ st' => (arrOf st').Perm (pairsOf vs) ∧ failedOf st' = none ∧ Asc rk st' (pairsOf vs).size) hk2 ⟨Array.Perm.refl _, rfl, rfl, rfl⟩ fun st' a1 a2 a3 => ⟨a1, a2, a3⟩) ?_ fun _ _ e => e)
    rintro ⟨⟨⟩, st'⟩ s' ⟨rfl, pm, fl, up⟩
    dsimp only
    refine wpAny_bind (seqEpoch_at o6 rfl ?_)
    refine wpAny_bind (listUpdate_at o6 rfl ?_ (hsz2 := by rw [Array.size_map, pm.size_eq]; lia))
    rw [fl]
    simp only [bne_self_eq_false, Bool.false_eq_true, if_false]
    have z := fin st' pm up
    unfold sortedHeap at z
    rw [← e6] at z
    exact wpAny_pure z
theorem sorted_by2 {l : Addr} {vs : List Value} {kd : SortKind} {rk : Value → Int} {Q : Value → Shared → Prop} (hl : s.heap.IsList l vs.toArray) (h64 : vs.length ≤ sizeLine)
    (hk : 2 ≤ vs.length → ∀ h6 : Heap, (∀ b o, s.heap.get? b = some o → h6.get? b = some o) → (∀ (A' : Around) (E' : Value → Shared → Prop) (Q' : SortKind → Shared → Prop), Q' kd { s with heap := h6 } → wpAny (model P w) A' (keyKind' vs.toArray) Q' E' { s with heap := h6 }) ∧ LtBy P w A.in1.in1 { s with heap := h6 } rk kd (pairsOf vs))
    (h : ∀ out : Array Value, out.toList.Perm vs → (∀ (i j : Nat) (u v : Value), i ≤ j → out[i]? = some u → out[j]? = some v → rk u ≤ rk v) → Q (.ref (s.heap.objs.size + 1)) { s with heap := sortedAll s.heap vs out }) :
    wpAny (model P w) A (call (.builtin "sorted") [.ref l]) Q E s := by
  refine Calls.call_function_entry kind_sorted plain_sorted entry_sorted (args_sorted1 _) ?_
  unfold Builtin.«sorted»
  refine wpAny_bind (m := checkCount "sorted" 1 1 _) (wpAny_pure (wpAny_bind (collect_list hl ?_)))
  refine wpAny_bind (wpAny_newList ?_)
  obtain ⟨h1, e1⟩ : ∃ h1 : Heap, h1 = (s.heap.push (seqObj "list" #[] 0)).update s.heap.objs.size (Obj.mapSeq (· ++ vs.toArray)) := ⟨_, rfl⟩
  have sz : h1.objs.size = s.heap.objs.size + 1 := by rw [e1, Heap.size_update, size_push']
  have old : ∀ b o, s.heap.get? b = some o → h1.get? b = some o := fun b o e => by
    rw [e1, Heap.get?_update_ne _ _ _ _ (Nat.ne_of_lt (Heap.lt_size e))]
    exact Heap.get?_push_of_some _ e
  obtain ⟨h2, e2⟩ : ∃ h2 : Heap, h2 = h1.push (seqObj "list" vs.toArray 0) := ⟨_, rfl⟩
  have o2 : h2.get? (s.heap.objs.size + 1) = some (seqObj "list" vs.toArray 0) := by rw [e2, ← sz]; exact Heap.get?_push_size _ rfl
  show wpAny _ _ _ _ _ { s with heap := ((s.heap.push (seqObj "list" #[] 0)).update s.heap.objs.size (Obj.mapSeq (· ++ vs.toArray))).push (seqObj "list" vs.toArray 0) }
  rw [← e1, sz]
  have h' : ∀ out : Array Value, out.toList.Perm vs → (∀ (i j : Nat) (u v : Value), i ≤ j → out[i]? = some u → out[j]? = some v → rk u ≤ rk v) → Q (.ref (s.heap.objs.size + 1)) { s with heap := sortedHeap h2 (s.heap.objs.size + 1) vs out } := fun out p1 p2 => by
    have z := h out p1 p2
    unfold sortedAll at z
    rw [← e1, ← e2] at z
    exact z
  rw [← e2]
  refine wpAny_bind (wpAny_holding (wpAny_call_entry slot_list_sort ⟨_, o2, rfl⟩ entry_list_sort (sort_by2 (s := { s with heap := h2 }) (kd := kd) (rk := rk) o2 h64 (fun g2 h6 e6 => ?_) fun out p1 p2 => ⟨_, rfl, ?_⟩) (args_list_sort _)))
  · have keep : ∀ b o, s.heap.get? b = some o → h6.get? b = some o := fun b o e => by
      have lt := Heap.lt_size e
      rw [e6]
      refine Heap.get?_push_of_some _ (Heap.get?_push_of_some _ ?_)
      show (h2.update (s.heap.objs.size + 1) _).get? b = some o
      rw [Heap.get?_update_ne _ _ _ _ (Nat.ne_of_lt (Nat.lt_succ_of_lt lt)), e2]
      exact Heap.get?_push_of_some _ (old b o e)
    exact ⟨(hk g2 h6 keep).1 _ _, (hk g2 h6 keep).2⟩
  · exact wpAny_pure ⟨_, rfl, h' out p1 p2⟩
abbrev PrS := Str × Str
def keyP (ps : List PrS) : KyT := ps.flatMap fun p => [p.1.cps.toList, p.2.cps.toList]
theorem keyP_cons (p : PrS) (ps : List PrS) : keyP (p :: ps) = p.1.cps.toList :: p.2.cps.toList :: keyP ps := rfl
theorem keyP_inj : ∀ {ps qs : List PrS}, keyP ps = keyP qs → ps = qs
  | [], [], _ => rfl
  | [], q :: qs, h => by rw [keyP_cons] at h; cases h
  | p :: ps, [], h => by rw [keyP_cons] at h; cases h
  | p :: ps, q :: qs, h => by
    rw [keyP_cons, keyP_cons] at h
    have h1 := (List.cons.inj h).1
    have h2 := (List.cons.inj (List.cons.inj h).2).1
    have h3 := (List.cons.inj (List.cons.inj h).2).2
    rw [keyP_inj h3, show p = q from Prod.ext (str_cps h1) (str_cps h2)]
theorem scn_map (f g : Nat → Bool) (c : Bool) (u : Nat → Nat) : ∀ l : List Nat, scn f g c (l.map u) = scn (f ∘ u) (g ∘ u) c l
  | [] => rfl
  | i :: l => by
    show (if f (u i) = true then scn f g c (l.map u) else g (u i)) = if f (u i) = true then scn (f ∘ u) (g ∘ u) c l else g (u i)
    rw [scn_map f g c u l]
theorem scn_congr {f f' g g' : Nat → Bool} {c : Bool} : ∀ {l : List Nat}, (∀ i ∈ l, f i = f' i) → (∀ i ∈ l, f i = false → g i = g' i) → scn f g c l = scn f' g' c l
  | [], _, _ => rfl
  | i :: l, h1, h2 => by
    have e := h1 i List.mem_cons_self
    have ih := scn_congr (c := c) (fun j hj => h1 j (List.mem_cons_of_mem _ hj)) (fun j hj => h2 j (List.mem_cons_of_mem _ hj))
    show (if f i = true then _ else _) = if f' i = true then _ else _
    cases z : f i with
    | true => rw [← e, z, if_pos rfl, if_pos rfl, ih]
    | false => rw [← e, z, if_neg (by decide), if_neg (by decide), h2 i List.mem_cons_self z]
def ltP (p q : PrS) : Bool := decide (keyP [p] < keyP [q])
theorem keyP_lt_cons (p q : PrS) (ps qs : List PrS) : keyP (p :: ps) < keyP (q :: qs) ↔ (keyP [p] < keyP [q] ∨ (p = q ∧ keyP ps < keyP qs)) := by
  rw [keyP_cons, keyP_cons]
  show _ ↔ (p.1.cps.toList :: p.2.cps.toList :: [] < q.1.cps.toList :: q.2.cps.toList :: [] ∨ _)
  rw [List.cons_lt_cons_iff, List.cons_lt_cons_iff, List.cons_lt_cons_iff, List.cons_lt_cons_iff]
  have n : ¬ (([] : KyT) < []) := List.lt_irrefl _
  have e : p = q ↔ p.1.cps.toList = q.1.cps.toList ∧ p.2.cps.toList = q.2.cps.toList := ⟨fun z => by rw [z]; exact ⟨rfl, rfl⟩, fun z => Prod.ext (str_cps z.1) (str_cps z.2)⟩
  rw [e]
  constructor
  · rintro (h | ⟨h1, h2 | ⟨h2, h3⟩⟩)
    · exact .inl (.inl h)
    · exact .inl (.inr ⟨h1, .inl h2⟩)
    · exact .inr ⟨⟨h1, h2⟩, h3⟩
  · rintro ((h | ⟨h1, h2 | ⟨h2, h3⟩⟩) | ⟨⟨h1, h2⟩, h3⟩)
    · exact .inl h
    · exact .inr ⟨h1, .inl h2⟩
    · exact absurd h3 n
    · exact .inr ⟨h1, .inr ⟨h2, h3⟩⟩
def gP (ps qs : List PrS) (j : Nat) : Bool := match ps[j]?, qs[j]? with
  | some p, some q => ltP p q
  | _, _ => false
theorem gP_at {ps qs : List PrS} {j : Nat} {p q : PrS} (h1 : ps[j]? = some p) (h2 : qs[j]? = some q) : gP ps qs j = ltP p q := by
  unfold gP
  rw [h1, h2]
theorem scn_P : ∀ (ps qs : List PrS), scn (fun j => decide (ps[j]? = qs[j]?)) (gP ps qs) (decide (ps.length < qs.length)) (List.range (min ps.length qs.length)) = decide (keyP ps < keyP qs)
  | [], [] => by
    show decide (0 < 0) = _
    rw [decide_eq_false (by decide), decide_eq_false (List.lt_irrefl _)]
  | [], q :: qs => by
    show scn _ _ _ (List.range (min 0 _)) = _
    rw [Nat.zero_min]
    show decide (0 < qs.length + 1) = _
    rw [decide_eq_true (Nat.succ_pos _)]
    exact (decide_eq_true (show ([] : KyT) < keyP (q :: qs) from List.nil_lt_cons _ _)).symm
  | p :: ps, [] => by
    show scn _ _ _ (List.range (min _ 0)) = _
    rw [Nat.min_zero]
    show decide (ps.length + 1 < 0) = _
    rw [decide_eq_false (Nat.not_lt_zero _)]
    exact (decide_eq_false (show ¬ keyP (p :: ps) < ([] : KyT) from List.not_lt_nil _)).symm
  | p :: ps, q :: qs => by
    have ih := scn_P ps qs
    rw [List.length_cons, List.length_cons, Nat.add_min_add_right, List.range_succ_eq_map]
    show (if decide (some p = some q) = true then _ else _) = _
    have key : decide (keyP (p :: ps) < keyP (q :: qs)) = (ltP p q || (decide (p = q) && decide (keyP ps < keyP qs))) := by
      rw [Bool.eq_iff_iff, decide_eq_true_eq, Bool.or_eq_true, Bool.and_eq_true, decide_eq_true_eq, decide_eq_true_eq, keyP_lt_cons]
      unfold ltP
      rw [decide_eq_true_eq]
    rw [key]
    by_cases e : p = q
    · subst e
      rw [if_pos (by simp), scn_map]
      have n : ltP p p = false := decide_eq_false (List.lt_irrefl _)
      rw [n, decide_eq_true rfl, Bool.false_or, Bool.true_and, ← ih, show decide (ps.length + 1 < qs.length + 1) = decide (ps.length < qs.length) by rw [Bool.eq_iff_iff, decide_eq_true_eq, decide_eq_true_eq]; exact Nat.succ_lt_succ_iff]
      exact scn_congr (fun i _ => rfl) (fun i _ _ => rfl)
    · rw [if_neg (by simpa using e), decide_eq_false e, Bool.false_and, Bool.or_false]
      rfl
def PrAt (h : Heap) (v : Value) (p : PrS) : Prop := ∃ (a : Addr) (t1 t2 : Tok), v = .ref a ∧ h.IsTuple a #[.str p.1 t1, .str p.2 t2]
theorem EqP.self {v : Addr} : EqP P w A s (.ref v) (.ref v) true := fun E Q q => by
  unfold eqBool
  refine wpAny_holding (wpAny_ite_split (fun _ => wpAny_bind (wpAny_rule (wpAny_pure q))) fun z => absurd (beq_self_eq_true _) z)
theorem PrAt.eq {v u : Value} {p q : PrS} (hv : PrAt s.heap v p) (hu : PrAt s.heap u q) (hA : A.units + 2 < cLine) : EqP P w A s v u (decide (p = q)) := by
  obtain ⟨a, t1, t2, rfl, ha⟩ := hv
  obtain ⟨b, t3, t4, rfl, hb⟩ := hu
  by_cases e : a = b
  · subst e
    have z : p = q := by
      obtain ⟨o, e1, _, n1, d1⟩ := id ha
      obtain ⟨o', e2, _, n2, d2⟩ := id hb
      rw [e1] at e2
      cases e2
      rw [d1] at d2
      have y := congrArg Array.toList (Data.seq.inj d2).1
      simp at y
      exact Prod.ext y.1.1 y.2.1
    rw [decide_eq_true z]
    exact EqP.self
  · have r := RcP.tup (P := P) (w := w) (A := A) (f := fun j => if j = 0 then decide (p.1 = q.1) else decide (p.2 = q.2)) ha hb (by lia) (fun j g1 g2 => ?_)
    · refine EqP.refs e ?_
      have z : decide (p = q) = ((List.range (min (#[Value.str p.1 t1, .str p.2 t2]).size (#[Value.str q.1 t3, .str q.2 t4]).size)).all (fun j => if j = 0 then decide (p.1 = q.1) else decide (p.2 = q.2)) && (#[Value.str p.1 t1, .str p.2 t2]).size == (#[Value.str q.1 t3, .str q.2 t4]).size) := by
        show _ = ((decide (p.1 = q.1) && (decide (p.2 = q.2) && true)) && true)
        rw [Bool.and_true, Bool.and_true, Bool.eq_iff_iff, decide_eq_true_eq, Bool.and_eq_true, decide_eq_true_eq, decide_eq_true_eq]
        exact ⟨fun z => by rw [z]; exact ⟨rfl, rfl⟩, fun z => Prod.ext z.1 z.2⟩
      rw [z]; exact r
    · have hs : ∀ (x y : Str) (t u : Tok), EqP P w A.in1 s (.str x t) (.str y u) (decide (x = y)) := fun x y t u => by
        have z := eqAt_V (A := A.in1) (s := s) (y := .str x) (x := .str y) (u := .str x t) (v := .str y u) ⟨t, rfl⟩ ⟨u, rfl⟩ rfl rfl
        rw [show eqV (.str x) (.str y) = decide (x = y) by show (x == y) = _; rw [Bool.eq_iff_iff, beq_iff_eq, decide_eq_true_eq]] at z
        exact EqP.of z
      match j, g1 with
      | 0, _ => exact hs _ _ _ _
      | 1, _ => exact hs _ _ _ _
end
end L2
set_option Elab.async false
set_option linter.all false
set_option maxRecDepth 100000
set_option maxHeartbeats 4000000
namespace L2
open PySem PySem.Spec PyProof.Rows
section
variable {P : Program} {w : World} {A : Around} {E : Value → Shared → Prop} {s : Shared}
theorem str_ne {x y : Str} : decide (x = y) = decide (x.cps.toList = y.cps.toList) := by
  rw [Bool.eq_iff_iff, decide_eq_true_eq, decide_eq_true_eq]
  exact ⟨fun e => by rw [e], str_cps⟩
theorem ltP_scn (p q : PrS) : ltP p q = scn (fun j => if j = 0 then decide (p.1 = q.1) else decide (p.2 = q.2)) (fun j => if j = 0 then decide (p.1.cps.toList < q.1.cps.toList) else decide (p.2.cps.toList < q.2.cps.toList)) (decide (2 < 2)) (List.range (min 2 2)) := by
  show ltP p q = if decide (p.1 = q.1) = true then (if decide (p.2 = q.2) = true then decide (2 < 2) else decide (p.2.cps.toList < q.2.cps.toList)) else decide (p.1.cps.toList < q.1.cps.toList)
  unfold ltP
  rw [str_ne, str_ne]
  have z : keyP [p] < keyP [q] ↔ (p.1.cps.toList < q.1.cps.toList ∨ (p.1.cps.toList = q.1.cps.toList ∧ p.2.cps.toList < q.2.cps.toList)) := by
    show p.1.cps.toList :: p.2.cps.toList :: [] < q.1.cps.toList :: q.2.cps.toList :: [] ↔ _
    rw [List.cons_lt_cons_iff, List.cons_lt_cons_iff]
    have n : ¬ (([] : KyT) < []) := List.lt_irrefl _
    exact ⟨fun z => z.imp_right fun z => ⟨z.1, z.2.elim id fun y => absurd y.2 n⟩, fun z => z.imp_right fun z => ⟨z.1, .inl z.2⟩⟩
  by_cases e1 : p.1.cps.toList = q.1.cps.toList
  · rw [if_pos (decide_eq_true e1)]
    by_cases e2 : p.2.cps.toList = q.2.cps.toList
    · rw [if_pos (decide_eq_true e2), decide_eq_false, decide_eq_false (by decide)]
      rw [z, e1, e2]
      rintro (h | ⟨_, h⟩) <;> exact List.lt_irrefl _ h
    · rw [if_neg (by rw [decide_eq_true_eq]; exact e2), Bool.eq_iff_iff, decide_eq_true_eq, decide_eq_true_eq, z]
      exact ⟨fun y => y.elim (fun y => by rw [e1] at y; exact absurd y (List.lt_irrefl _)) (·.2), fun y => .inr ⟨e1, y⟩⟩
  · rw [if_neg (by rw [decide_eq_true_eq]; exact e1), Bool.eq_iff_iff, decide_eq_true_eq, decide_eq_true_eq, z]
    exact ⟨fun y => y.elim id (fun y => absurd y.1 e1), .inl⟩
theorem PrAt.lt {v u : Value} {p q : PrS} (hv : PrAt s.heap v p) (hu : PrAt s.heap u q) (hA : A.units + 2 < cLine) : CmP .Lt P w A s v u (ltP p q) := by
  obtain ⟨a, t1, t2, rfl, ha⟩ := hv
  obtain ⟨b, t3, t4, rfl, hb⟩ := hu
  have hs : ∀ (x y : Str) (t u : Tok), EqP P w A.in1 s (.str x t) (.str y u) (decide (x = y)) := fun x y t u => by
    have z := eqAt_V (A := A.in1) (s := s) (y := .str x) (x := .str y) (u := .str x t) (v := .str y u) ⟨t, rfl⟩ ⟨u, rfl⟩ rfl rfl
    rw [show eqV (.str x) (.str y) = decide (x = y) by show (x == y) = _; rw [Bool.eq_iff_iff, beq_iff_eq, decide_eq_true_eq]] at z
    exact EqP.of z
  have r := CmP.tupLt (P := P) (w := w) (A := A) (f := fun j => if j = 0 then decide (p.1 = q.1) else decide (p.2 = q.2)) (g := fun j => if j = 0 then decide (p.1.cps.toList < q.1.cps.toList) else decide (p.2.cps.toList < q.2.cps.toList)) ha hb (by lia) (fun j g1 g2 => match j, g1 with
      | 0, _ => hs _ _ _ _
      | 1, _ => hs _ _ _ _) (fun j g1 g2 _ => match j, g1 with
      | 0, _ => CmP.strLt
      | 1, _ => CmP.strLt)
  rw [ltP_scn]; exact r
def LpAt (h : Heap) (v : Value) (ps : List PrS) : Prop := ∃ (a : Addr) (us : List Value), v = .ref a ∧ h.IsList a us.toArray ∧ Paired (PrAt h) us ps
theorem LpAt.lt {v u : Value} {ps qs : List PrS} {Q : Bool → Shared → Prop} (hv : LpAt s.heap v ps) (hu : LpAt s.heap u qs) (hA : A.units + 8 < cLine) (q : Q (decide (keyP ps < keyP qs)) s) : wpAny (model P w) A (keyLt' oneType' v u) Q E s := by
  obtain ⟨a, us, rfl, ha, pa⟩ := hv
  obtain ⟨b, vs, rfl, hb, pb⟩ := hu
  have l1 := Paired.length pa
  have l2 := Paired.length pb
  obtain ⟨⟨c1, d1, a1, s1⟩, o1, k1, n1, w1⟩ := id ha
  obtain ⟨⟨c2, d2, a2, s2⟩, o2, k2, n2, w2⟩ := id hb
  simp only at k1 w1 k2 w2
  subst k1 w1 k2 w2
  have gt : ∀ {xs : List Value} {rs : List PrS} (j : Nat) (g : j < xs.toArray.size), Paired (PrAt s.heap) xs rs → ∃ p, rs[j]? = some p ∧ PrAt s.heap xs.toArray[j] p := fun {xs rs} j g pr => by
    have g' : j < xs.length := by simpa using g
    obtain ⟨p, hp, z⟩ := paired_get pr (List.getElem?_eq_getElem g')
    exact ⟨p, hp, by simpa using z⟩
  rw [keyLt'_oneType, oneLt'_eq]
  simp only [if_true]
  refine wpAny_bind (wpAny_cRoomFor (by lia) ?_)
  refine wpAny_bind (wpAny_callSpecialIfBound?_slot ⟨_, o1, rfl⟩ PySem.F.slot_list_lt (call_meetsIn PySem.F.slot_list_lt ⟨_, o1, rfl⟩ PySem.F.entry_list_lt (PySem.F.args_list_lt_2 _ _) (lstLtC a b us.toArray vs.toArray n1 n2 d1 d2 s1 s2 (fun j => decide (ps[j]? = qs[j]?)) (gP ps qs)) ⟨o1, o2, fun j g1 g2 => ?_, fun j g1 g2 _ => ?_, ?_⟩))
  · obtain ⟨p, hp, z1⟩ := gt j g1 pa
    obtain ⟨q, hq, z2⟩ := gt j g2 pb
    rw [hp, hq, show decide (some p = some q) = decide (p = q) by rw [Bool.eq_iff_iff, decide_eq_true_eq, decide_eq_true_eq]; exact ⟨Option.some.inj, fun e => by rw [e]⟩]
    exact z1.eq z2 (by show A.units + 1 + 2 < cLine; lia)
  · obtain ⟨p, hp, z1⟩ := gt j g1 pa
    obtain ⟨q, hq, z2⟩ := gt j g2 pb
    rw [gP_at hp hq]
    exact z1.lt z2 (by show A.units + 1 + 2 < cLine; lia)
  · rw [List.size_toArray, List.size_toArray, l1, l2, scn_P]
    exact wpAny_truthy_bool q
theorem kind_lst {vs : List Value} {Q : SortKind → Shared → Prop} (hne : vs ≠ []) (h : ∀ v ∈ vs, ∃ (a : Addr) (us : Array Value), v = .ref a ∧ s.heap.IsList a us) (q : Q oneType' s) : wpAny (model P w) A (keyKind' vs.toArray) Q E s := by
  have ty : ∀ v ∈ vs, s.TypeIs v "list" := fun v hv => by
    obtain ⟨a, us, rfl, o, e, hc, _⟩ := h v hv
    exact ⟨o, e, hc⟩
  rw [keyKind'_eq, List.mapM_toArray]
  refine wpAny_bind (wpAny_map (mapM_wp (g := fun _ => (none : Option Value)) (fun v hv Q' q' => ?_) ?_))
  · rw [firstOf_eq]
    refine wpAny_bind (wpAny_typeOf (T := "list") (ty v hv) ?_)
    rw [if_pos (by decide)]
    exact wpAny_pure q'
  obtain ⟨v, r, rfl⟩ := List.exists_cons_of_ne_nil hne
  rw [if_neg (by simp), if_neg (by simp), oneTypeOnly'_eq, List.mapM_toArray]
  refine wpAny_bind (wpAny_bind (wpAny_map (mapM_wp (g := fun _ => Value.type "list") (fun v hv Q' q' => wpAny_typeOf (ty v hv) q') ?_)))
  have h0 : ((v :: r).map fun _ => Value.type "list").toArray[0]? = some (Value.type "list") := by simp
  rw [h0]
  have ha : (((v :: r).map fun _ => Value.type "list").toArray.all fun x => x == Value.type "list") = true := by
    simp only [List.all_toArray, List.all_map, List.all_eq_true]
    intro _ _
    rfl
  dsimp only
  rw [if_pos ha]
  exact wpAny_pure (wpAny_pure q)
end
section
variable {X : Cx}
abbrev LsT := Addr × List (Addr × PrS)
def rSortedP (K : PySem.W.Frag) : List V → Hp → VK → Prop := fun xs H Q => ∃ (p : Addr) (ls : List LsT), xs = [.ref p] ∧ SqL K H p (ls.map fun l => V.ref l.1) ∧ (∀ l ∈ ls, SqL K H l.1 (l.2.map fun t => V.ref t.1) ∧ ∀ t ∈ l.2, SqT K H t.1 [.str t.2.1, .str t.2.2]) ∧
  ∀ ls' : List LsT, ls'.Perm ls → ls'.Pairwise (fun a b => ¬ keyP (b.2.map (·.2)) < keyP (a.2.map (·.2))) → ∀ l, H l = none → Q (.ref l) (upd H l (.lst (ls'.map fun l => V.ref l.1)))
theorem vals_refsG {α : Type} (f : α → Addr) {ts : List α} : ∀ {us : List Value}, Vals (ts.map fun t => V.ref (f t)) us → us = ts.map fun t => Value.ref (f t) := by
  induction ts with
  | nil => intro us h; cases h; rfl
  | cons t r ih =>
    intro us h
    cases h with
    | cons rx t2 =>
      have e : _ = Value.ref (f t) := rx
      rw [e, ih t2]; rfl
theorem refs_valsG {α : Type} (f : α → Addr) : ∀ ts : List α, Vals (ts.map fun t => V.ref (f t)) (ts.map fun t => Value.ref (f t))
  | [] => .nil
  | t :: r => .cons rfl (refs_valsG f r)
theorem call_sortedP (hu : X.A.units + 64 < cLine) : CallR X (.builtin "sorted") (rSortedP X.K) := by
  intro pins s σ H xs us Q I r h
  obtain ⟨p, ls, rfl, hx, hls, q⟩ := h
  obtain ⟨u, rfl, ru⟩ := vals1 r
  cases ru
  obtain ⟨its, rv, ht, hz⟩ := I.list hx
  have ei := vals_refsG (fun l : LsT => l.1) rv
  subst ei
  have inj : ∀ l ∈ ls, ∀ l' ∈ ls, l.1 = l'.1 → l.2.map (·.2) = l'.2.map (·.2) := fun l hl l' hl' e => by
    have z := (hls l hl).1
    rw [e] at z
    have m := I.list_inj z (hls l' hl').1
    have key : ∀ (a b : List (Addr × PrS)), a.map (fun t => V.ref t.1) = b.map (fun t => V.ref t.1) → (∀ t ∈ a, SqT X.K H t.1 [.str t.2.1, .str t.2.2]) → (∀ t ∈ b, SqT X.K H t.1 [.str t.2.1, .str t.2.2]) → a.map (·.2) = b.map (·.2) := by
      intro a
      induction a with
      | nil => intro b e _ _; cases b with | nil => rfl | cons _ _ => cases e
      | cons t a ih =>
        intro b e h1 h2
        cases b with
        | nil => cases e
        | cons t' b =>
          have e1 : t.1 = t'.1 := V.ref.inj (List.cons.inj e).1
          have s1 := h1 t List.mem_cons_self
          rw [e1] at s1
          have e2 := I.tuple_inj s1 (h2 t' List.mem_cons_self)
          have f1 := V.str.inj (List.cons.inj e2).1
          have f2 := V.str.inj (List.cons.inj (List.cons.inj e2).2).1
          rw [List.map_cons, List.map_cons, ih b (List.cons.inj e).2 (fun t ht => h1 t (List.mem_cons_of_mem _ ht)) (fun t ht => h2 t (List.mem_cons_of_mem _ ht)), show t.2 = t'.2 from Prod.ext f1 f2]
    exact key _ _ m (hls l hl).2 (hls l' hl').2
  let kf : Value → KyT := fun v => match v with
    | .ref a => match ls.find? (fun t => t.1 == a) with
      | some t => keyP (t.2.map (·.2))
      | none => []
    | _ => []
  have kfa : ∀ t ∈ ls, kf (.ref t.1) = keyP (t.2.map (·.2)) := fun t hm => by
    show (match ls.find? (fun t' => t'.1 == t.1) with | some (t : LsT) => keyP (t.2.map fun x : Addr × PrS => x.2) | none => []) = _
    cases e : ls.find? (fun t' => t'.1 == t.1) with
    | none => exact absurd (List.find?_eq_none.mp e t hm) (by simp)
    | some t' =>
      have e1 : t'.1 = t.1 := by simpa using List.find?_some e
      show keyP _ = keyP _
      rw [inj t' (List.mem_of_find?_eq_some e) t hm e1]
  have key : ∀ h6 : Heap, (∀ b o, s.heap.get? b = some o → h6.get? b = some o) → ∀ v ∈ ls.map (fun t => Value.ref t.1), ∃ t : LsT, t ∈ ls ∧ v = .ref t.1 ∧ LpAt h6 v (t.2.map (·.2)) := fun h6 keep v hv => by
    obtain ⟨t, hm, rfl⟩ := List.mem_map.mp hv
    obtain ⟨us, r1, p1, z1⟩ := I.list (hls t hm).1
    have eu := vals_refsG (fun l : Addr × PrS => l.1) r1
    subst eu
    obtain ⟨o, e, hc, n, d⟩ := p1.isList
    refine ⟨t, hm, rfl, t.1, _, rfl, ⟨o, keep _ _ e, hc, n, d⟩, ?_⟩
    have pr : ∀ l : List (Addr × PrS), (∀ t ∈ l, SqT X.K H t.1 [.str t.2.1, .str t.2.2]) → Paired (PrAt h6) (l.map fun t => Value.ref t.1) (l.map (·.2)) := by
      intro l
      induction l with
      | nil => intro _; exact .nil
      | cons y l ih =>
        intro hl
        refine .cons ?_ (ih fun t ht => hl t (List.mem_cons_of_mem _ ht))
        obtain ⟨vs, r2, p2, z2⟩ := I.tuple (hl y List.mem_cons_self)
        cases r2 with
        | cons ra r2 =>
          cases r2 with
          | cons rb r2 =>
            cases r2
            obtain ⟨ta, rfl⟩ := (show ∃ tk, _ = Value.str y.2.1 tk from ra)
            obtain ⟨tb, rfl⟩ := (show ∃ tk, _ = Value.str y.2.2 tk from rb)
            obtain ⟨o, e, hc, n, d⟩ := (show s.heap.IsTuple y.1 _ from p2)
            exact ⟨y.1, ta, tb, rfl, ⟨o, keep _ _ e, hc, n, d⟩⟩
    exact pr t.2 (hls t hm).2
  have hlz : ls.length ≤ sizeLine := by rw [List.length_map] at hz; exact hz
  refine sorted_by2 (s := s) (kd := oneType') (rk := fun v => rkT ((ls.map fun t => Value.ref t.1).map kf) (kf v)) ht.isList (by rw [List.length_map]; exact hlz) (fun h2 h6 keep => ⟨fun A' E' Q' q' => kind_lst (s := { s with heap := h6 }) (by intro z; rw [z] at h2; exact absurd h2 (by decide)) (fun v hv => ?_) q', ?_⟩) fun out pm up => ?_
  · obtain ⟨t, hm, e, a, us, e', hl, _⟩ := key h6 keep v hv
    exact ⟨a, us.toArray, e', hl⟩
  · intro x y E' Q' hx hy q'
    have mem : ∀ z, (∃ p ∈ (pairsOf (ls.map fun t => Value.ref t.1)).toList, p.1 = z) → z ∈ ls.map fun t => Value.ref t.1 := fun z hz => by
      obtain ⟨p, hp, rfl⟩ := hz
      rw [pairsOf_toList] at hp
      exact (mem_zip_self hp).2
    have mx := mem x hx
    have my := mem y hy
    rw [rk_lt (List.mem_map.mpr ⟨x, mx, rfl⟩)] at q'
    obtain ⟨t, hm, rfl, l1⟩ := key h6 keep x mx
    obtain ⟨t', hm', rfl, l2⟩ := key h6 keep y my
    rw [kfa t hm, kfa t' hm'] at q'
    exact LpAt.lt (s := { s with heap := h6 }) l1 l2 (by show X.A.units + 1 + 1 + 8 < cLine; lia) q'
  · obtain ⟨ls', e', p'⟩ := perm_map_ex (fun t : LsT => Value.ref t.1) pm ls rfl
    obtain ⟨e, he⟩ := sortedAll_at s.heap (ls.map fun t => Value.ref t.1) out
    have hl' := p'.length_eq
    refine ⟨.ref (s.heap.objs.size + 1), _, I.newL (tk := s.toks) (fun _ _ => sortedAll_old) (Nat.le_succ _) he (by rw [e']; exact refs_valsG (fun l : LsT => l.1) ls') (by rw [List.length_map]; lia), rfl, q ls' p' ?_ _ (I.hok.fresh (Nat.le_succ _))⟩
    refine List.pairwise_iff_getElem.mpr fun i j hi hj hij => ?_
    have g : ∀ (k : Nat) (hk : k < ls'.length), out[k]? = some (Value.ref ls'[k].1) := fun k hk => by
      rw [← Array.getElem?_toList, e', List.getElem?_map, List.getElem?_eq_getElem hk]; rfl
    have z := up i j _ _ (Nat.le_of_lt hij) (g i hi) (g j hj)
    have mi : ls'[i] ∈ ls := p'.mem_iff.mp (List.getElem_mem hi)
    have mj : ls'[j] ∈ ls := p'.mem_iff.mp (List.getElem_mem hj)
    have z2 := rk_le (List.mem_map.mpr ⟨_, List.mem_map.mpr ⟨_, mj, rfl⟩, rfl⟩) z
    rw [kfa _ mi, kfa _ mj] at z2
    exact z2
theorem kSortedP (K : PySem.W.Frag) {k : Nat} (hr : Room k X.A) (h : X.K = K := by rfl) : CallR X (.builtin "sorted") (rSortedP K) := h ▸ call_sortedP (by have := hr.un; lia)
end
end L2
set_option Elab.async false
set_option linter.all false
set_option maxRecDepth 100000
set_option maxHeartbeats 4000000
namespace L2
open PySem PySem.Spec PyProof.Rows
section
variable {A : Around} {s : Shared}
end
section
variable {X : Cx}
def RwK (K : PySem.W.Frag) (H : Hp) (x : LsT) : Prop := SqL K H x.1 (x.2.map fun t => V.ref t.1) ∧ ∀ t ∈ x.2, SqT K H t.1 [.str t.2.1, .str t.2.2]
theorem RwK.at_ {pins : List (Addr × Obj)} {σ : St} {H : Hp} {s : Shared} (I : Inv X pins σ H s) {x : LsT} (h : RwK X.K H x) : LpAt s.heap (.ref x.1) (x.2.map (·.2)) := by
  obtain ⟨us, r1, p1, z1⟩ := I.list h.1
  have eu := vals_refsG (fun l : Addr × PrS => l.1) r1
  subst eu
  refine ⟨x.1, _, rfl, p1.isList, ?_⟩
  have pr : ∀ l : List (Addr × PrS), (∀ t ∈ l, SqT X.K H t.1 [.str t.2.1, .str t.2.2]) → Paired (PrAt s.heap) (l.map fun t => Value.ref t.1) (l.map (·.2)) := by
    intro l
    induction l with
    | nil => intro _; exact .nil
    | cons y l ih =>
      intro hl
      refine .cons ?_ (ih fun t ht => hl t (List.mem_cons_of_mem _ ht))
      obtain ⟨vs, r2, p2, z2⟩ := I.tuple (hl y List.mem_cons_self)
      cases r2 with
      | cons ra r2 =>
        cases r2 with
        | cons rb r2 =>
          cases r2
          obtain ⟨ta, rfl⟩ := (show ∃ tk, _ = Value.str y.2.1 tk from ra)
          obtain ⟨tb, rfl⟩ := (show ∃ tk, _ = Value.str y.2.2 tk from rb)
          exact ⟨y.1, ta, tb, rfl, p2⟩
  exact pr x.2 h.2
end
end L2
set_option Elab.async false
set_option linter.all false
set_option maxRecDepth 100000
set_option maxHeartbeats 4000000
namespace L2
open PySem PySem.Spec PyProof.Rows
open PySem.AutoSeq1 (wpAny_loadPart')
open PySem.MeetsSeq PySem.MeetsSeq2 PySem.MeetsSeq3
section
variable {P : Program} {w : World}
theorem tupGeP (l m : Addr) (xs ys : Array Value) (n1 n2 : Nat) (d1 d2 : Option Addr) (s1 s2 : Array (Option Value)) (f g : Nat → Bool) :
    MeetsIn P w (Builtin.«tuple.__ge__» ⟨[.ref l, .ref m], []⟩) (fun A R s =>
      s.heap.get? l = some { cls := .type "tuple", dict := d1, data := .seq xs n1, slots := s1 } ∧ s.heap.get? m = some { cls := .type "tuple", dict := d2, data := .seq ys n2, slots := s2 } ∧
      (∀ j (g1 : j < xs.size) (g2 : j < ys.size), EqP P w A.in1 s xs[j] ys[j] (f j)) ∧ (∀ j (g1 : j < xs.size) (g2 : j < ys.size), f j = false → CmP .GtE P w A.in1 s xs[j] ys[j] (g j)) ∧
      R (.ok (.ret (.bool (scn f g (decide (xs.size ≥ ys.size)) (List.range (min xs.size ys.size)))))) s) :=
  .of_wp fun A R s hyp => by
    obtain ⟨hp, gg, dr, tk, os⟩ := s
    obtain ⟨e1, e2, he, hc, fin⟩ := hyp
    have sub := AutoSeq1.sub_tuple_tuple
    have len : (xs.toList.zip ys.toList).length = min xs.size ys.size := by simp
    wp_walk using wpAny_loadPart' e1, wpAny_loadPart' e2, wpAny_forIn_list _ (fun more acc st => acc.1 = none ∧ st = ⟨hp, gg, dr, tk, os⟩ ∧ ∃ i, more = (xs.toList.zip ys.toList).drop i ∧
      R (.ok (.ret (.bool (scn f g (decide (xs.size ≥ ys.size)) ((List.range (min xs.size ys.size)).drop i))))) ⟨hp, gg, dr, tk, os⟩) _
    case turn =>
      rintro ⟨y, x⟩ more acc st ⟨ha, rfl, i, hi, hR⟩
      have lt : i < (xs.toList.zip ys.toList).length := by
        rcases Nat.lt_or_ge i (xs.toList.zip ys.toList).length with z | z
        · exact z
        · rw [List.drop_of_length_le z] at hi
          cases hi
      have lm : i < min xs.size ys.size := len ▸ lt
      have lx : i < xs.size := Nat.lt_of_lt_of_le lm (Nat.min_le_left _ _)
      have ly : i < ys.size := Nat.lt_of_lt_of_le lm (Nat.min_le_right _ _)
      rw [List.drop_eq_getElem_cons lt] at hi
      injection hi with h1 h2
      have q1 : y = xs[i] := by simpa using congrArg Prod.fst h1
      have q2 : x = ys[i] := by simpa using congrArg Prod.snd h1
      subst q1 q2
      have dr1 : (List.range (min xs.size ys.size)).drop i = i :: (List.range (min xs.size ys.size)).drop (i + 1) := by simp [List.drop_eq_getElem_cons, lm]
      rw [dr1] at hR
      unfold scn at hR
      refine wpAny_bind (he i lx ly _ _ ?_)
      cases hf : f i with
      | true =>
        rw [if_pos hf] at hR
        wp_walk
        exact ⟨rfl, rfl, i + 1, h2, hR⟩
      | false =>
        rw [if_neg (by rw [hf]; decide)] at hR
        have hcc := hc i lx ly hf
        unfold CmP at hcc
        wp_walk using hcc
        exact ⟨_, rfl, hR⟩
    case fin =>
      rintro ⟨c1, c2⟩ st ⟨ha, rfl, i, hi, hR⟩
      simp only at ha
      subst ha
      have ge : min xs.size ys.size ≤ i := by
        rcases Nat.lt_or_ge i (xs.toList.zip ys.toList).length with z | z
        · rw [List.drop_eq_getElem_cons z] at hi
          cases hi
        · exact len ▸ z
      rw [List.drop_of_length_le (by simpa using ge)] at hR
      have hR' : R (.ok (.ret (.bool (decide (xs.size ≥ ys.size))))) ⟨hp, gg, dr, tk, os⟩ := hR
      wp_walk
      exact ⟨_, rfl, by simpa [Builtin.Tuple.tupleCompareSizes] using hR'⟩
    case h =>
      exact ⟨rfl, rfl, 0, rfl, by simpa using fin⟩
theorem loopGeC (l m : Addr) (xs ys : Array Value) (n1 n2 : Nat) (d1 d2 : Option Addr) (s1 s2 : Array (Option Value)) (f g : Nat → Bool) : ∀ (k i : Nat), min xs.size ys.size - i = k →
    MeetsIn P w (Builtin.«list.__eq__.loop» ⟨[.ref l, .ref m, rawInt i, rawInt 5], []⟩) (fun A R s =>
      s.heap.get? l = some { cls := .type "list", dict := d1, data := .seq xs n1, slots := s1 } ∧ s.heap.get? m = some { cls := .type "list", dict := d2, data := .seq ys n2, slots := s2 } ∧
      (∀ j (g1 : j < xs.size) (g2 : j < ys.size), EqP P w A.in1 s xs[j] ys[j] (f j)) ∧ (∀ j (g1 : j < xs.size) (g2 : j < ys.size), f j = false → CmP .GtE P w A.in1 s xs[j] ys[j] (g j)) ∧
      R (.ok (.ret (.bool (scn f g (decide (xs.size ≥ ys.size)) ((List.range (min xs.size ys.size)).drop i))))) s)
  | 0, i, hk => by
    intro A R s hyp
    obtain ⟨hp, gg, dr, tk, os⟩ := s
    obtain ⟨e1, e2, he, hc, fin⟩ := hyp
    rw [List.drop_of_length_le (by rw [List.length_range]; lia)] at fin
    have fin' : R (.ok (.ret (.bool (decide (xs.size ≥ ys.size))))) ⟨hp, gg, dr, tk, os⟩ := fin
    rcases Nat.lt_or_ge i xs.size with hx | hx
    · have x1 : xs[((i : Nat) : Int).toNat]? = some xs[i] := by simp [hx]
      have x2 : ys[((i : Nat) : Int).toNat]? = none := by simp; lia
      wp_walk using wpAny_loadPart' e1, wpAny_loadPart' e2
      rw [x1, x2]
      wp_walk using wpAny_loadPart' e1, wpAny_loadPart' e2
      exact fin'
    · have x1 : xs[((i : Nat) : Int).toNat]? = none := by simp; lia
      wp_walk using wpAny_loadPart' e1, wpAny_loadPart' e2
      rw [x1]
      wp_walk using wpAny_loadPart' e1, wpAny_loadPart' e2
      exact fin'
  | k + 1, i, hk => by
    intro A R s hyp
    have ih := loopGeC l m xs ys n1 n2 d1 d2 s1 s2 f g k (i + 1) (by lia)
    obtain ⟨hp, gg, dr, tk, os⟩ := s
    obtain ⟨e1, e2, he, hc, fin⟩ := hyp
    have l1 : i < xs.size := by lia
    have l2 : i < ys.size := by lia
    have lm : i < min xs.size ys.size := by lia
    have dr1 : (List.range (min xs.size ys.size)).drop i = i :: (List.range (min xs.size ys.size)).drop (i + 1) := by simp [List.drop_eq_getElem_cons, lm]
    rw [dr1] at fin
    unfold scn at fin
    have x1 : xs[((i : Nat) : Int).toNat]? = some xs[i] := by simp [l1]
    have x2 : ys[((i : Nat) : Int).toNat]? = some ys[i] := by simp [l2]
    have x4 : ((i : Int) + 1) = ((i + 1 : Nat) : Int) := by push_cast; rfl
    wp_walk using wpAny_loadPart' e1, wpAny_loadPart' e2
    rw [x1, x2]
    refine wpAny_bind (he i l1 l2 _ _ ?_)
    cases hf : f i with
    | true =>
      rw [if_pos hf] at fin
      wp_walk
      rw [x4]
      refine ⟨plainId_quiet eqL1 _, codeAny_builtin entry_eq_loop ?_⟩
      rw [Around.under_plainId eqL1 _]
      exact ih A R _ ⟨e1, e2, he, hc, fin⟩
    | false =>
      rw [if_neg (by rw [hf]; decide)] at fin
      wp_walk using wpAny_loadPart' e1, wpAny_loadPart' e2
      rw [x1, x2]
      refine wpAny_bind (hc i l1 l2 hf _ _ ?_)
      wp_walk
      exact fin
theorem lstGeC (l m : Addr) (xs ys : Array Value) (n1 n2 : Nat) (d1 d2 : Option Addr) (s1 s2 : Array (Option Value)) (f g : Nat → Bool) :
    MeetsIn P w (Builtin.«list.__ge__» ⟨[.ref l, .ref m], []⟩) (fun A R s =>
      s.heap.get? l = some { cls := .type "list", dict := d1, data := .seq xs n1, slots := s1 } ∧ s.heap.get? m = some { cls := .type "list", dict := d2, data := .seq ys n2, slots := s2 } ∧
      (∀ j (g1 : j < xs.size) (g2 : j < ys.size), EqP P w A.in1 s xs[j] ys[j] (f j)) ∧ (∀ j (g1 : j < xs.size) (g2 : j < ys.size), f j = false → CmP .GtE P w A.in1 s xs[j] ys[j] (g j)) ∧
      R (.ok (.ret (.bool (scn f g (decide (xs.size ≥ ys.size)) (List.range (min xs.size ys.size)))))) s) := by
  intro A R s hyp
  obtain ⟨hp, gg, dr, tk, os⟩ := s
  obtain ⟨e1, e2, he, hc, fin⟩ := hyp
  have q1 := AutoSeq1.sub_list_list
  wp_walk using wpAny_loadPart' e1, wpAny_loadPart' e2
  refine ⟨plainId_quiet eqL1 _, codeAny_builtin entry_eq_loop ?_⟩
  rw [Around.under_plainId eqL1 _]
  exact loopGeC l m xs ys n1 n2 d1 d2 s1 s2 f g _ 0 rfl A R _ ⟨e1, e2, he, hc, by simpa using fin⟩
theorem CmP.strGe {A : Around} {s : Shared} {a b : Str} {t u : Tok} : CmP .GtE P w A s (.str a t) (.str b u) (!decide (a.cps.toList < b.cps.toList)) := fun E Q q =>
  richCompare_gives (op := .GtE) (typeIs_str _ _ _) (typeIs_str _ _ _) F.slot_str_ge F.entry_str_ge (F.args_str_ge_2 _ _) (gives_str_ge _ _ _ _) (fun e => nomatch e) q
theorem CmP.tupGe {A : Around} {s : Shared} {l m : Addr} {xs ys : Array Value} {f g : Nat → Bool} (hl : s.heap.IsTuple l xs) (hm : s.heap.IsTuple m ys) (hu : A.units < cLine)
    (he : ∀ j (g1 : j < xs.size) (g2 : j < ys.size), EqP P w A.in1 s xs[j] ys[j] (f j)) (hc : ∀ j (g1 : j < xs.size) (g2 : j < ys.size), f j = false → CmP .GtE P w A.in1 s xs[j] ys[j] (g j)) : CmP .GtE P w A s (.ref l) (.ref m) (scn f g (decide (xs.size ≥ ys.size)) (List.range (min xs.size ys.size))) := fun E Q q => by
  obtain ⟨⟨c1, d1, a1, s1⟩, o1, k1, n1, t1⟩ := id hl
  obtain ⟨⟨c2, d2, a2, s2⟩, o2, k2, n2, t2⟩ := id hm
  simp only at k1 t1 k2 t2
  subst k1 t1 k2 t2
  refine wpAny_richCompare_same_room (op := .GtE) ⟨_, o1, rfl⟩ ⟨_, o2, rfl⟩ PySem.F.slot_tuple_ge (call_meetsIn PySem.F.slot_tuple_ge ⟨_, o1, rfl⟩ PySem.F.entry_tuple_ge (PySem.F.args_tuple_ge_2 _ _) (tupGeP l m xs ys n1 n2 d1 d2 s1 s2 f g) ⟨o1, o2, he, hc, ?_⟩) hu
  exact ⟨(fun z => nomatch z), q⟩
theorem scn_not (f g : Nat → Bool) (c : Bool) : ∀ l : List Nat, scn f (fun j => !g j) (!c) l = !scn f g c l
  | [] => rfl
  | i :: l => by
    show (if f i = true then scn f (fun j => !g j) (!c) l else !g i) = !(if f i = true then scn f g c l else g i)
    rw [scn_not f g c l]
    split <;> rfl
theorem ge_dec (m n : Nat) : decide (m ≥ n) = !decide (m < n) := by
  rw [Bool.eq_iff_iff, decide_eq_true_eq, Bool.not_eq_true', decide_eq_false_iff_not]
  exact ⟨fun h => Nat.not_lt.mpr h, fun h => Nat.not_lt.mp h⟩
end
section
variable {P : Program} {w : World} {A : Around} {E : Value → Shared → Prop} {s : Shared}
theorem PrAt.ge {v u : Value} {p q : PrS} (hv : PrAt s.heap v p) (hu : PrAt s.heap u q) (hA : A.units + 2 < cLine) : CmP .GtE P w A s v u (!ltP p q) := by
  obtain ⟨a, t1, t2, rfl, ha⟩ := hv
  obtain ⟨b, t3, t4, rfl, hb⟩ := hu
  have hs : ∀ (x y : Str) (t u : Tok), EqP P w A.in1 s (.str x t) (.str y u) (decide (x = y)) := fun x y t u => by
    have z := eqAt_V (A := A.in1) (s := s) (y := .str x) (x := .str y) (u := .str x t) (v := .str y u) ⟨t, rfl⟩ ⟨u, rfl⟩ rfl rfl
    rw [show eqV (.str x) (.str y) = decide (x = y) by show (x == y) = _; rw [Bool.eq_iff_iff, beq_iff_eq, decide_eq_true_eq]] at z
    exact EqP.of z
  have r := CmP.tupGe (P := P) (w := w) (A := A) (f := fun j => if j = 0 then decide (p.1 = q.1) else decide (p.2 = q.2)) (g := fun j => !(if j = 0 then decide (p.1.cps.toList < q.1.cps.toList) else decide (p.2.cps.toList < q.2.cps.toList))) ha hb (by lia) (fun j g1 g2 => match j, g1 with
      | 0, _ => hs _ _ _ _
      | 1, _ => hs _ _ _ _) (fun j g1 g2 _ => match j, g1 with
      | 0, _ => CmP.strGe
      | 1, _ => CmP.strGe)
  rw [ge_dec, scn_not] at r
  have e : ltP p q = scn (fun j => if j = 0 then decide (p.1 = q.1) else decide (p.2 = q.2)) (fun j => if j = 0 then decide (p.1.cps.toList < q.1.cps.toList) else decide (p.2.cps.toList < q.2.cps.toList)) (decide ((#[Value.str p.1 t1, .str p.2 t2]).size < (#[Value.str q.1 t3, .str q.2 t4]).size)) (List.range (min (#[Value.str p.1 t1, .str p.2 t2]).size (#[Value.str q.1 t3, .str q.2 t4]).size)) := ltP_scn p q
  rw [e]; exact r
theorem LpAt.ge {v u : Value} {ps qs : List PrS} (hv : LpAt s.heap v ps) (hu : LpAt s.heap u qs) (hA : A.units + 8 < cLine) : CmP .GtE P w A s v u (!decide (keyP ps < keyP qs)) := by
  obtain ⟨a, us, rfl, ha, pa⟩ := hv
  obtain ⟨b, vs, rfl, hb, pb⟩ := hu
  have l1 := Paired.length pa
  have l2 := Paired.length pb
  obtain ⟨⟨c1, d1, a1, s1⟩, o1, k1, n1, w1⟩ := id ha
  obtain ⟨⟨c2, d2, a2, s2⟩, o2, k2, n2, w2⟩ := id hb
  simp only at k1 w1 k2 w2
  subst k1 w1 k2 w2
  have gt : ∀ {xs : List Value} {rs : List PrS} (j : Nat) (g : j < xs.toArray.size), Paired (PrAt s.heap) xs rs → ∃ p, rs[j]? = some p ∧ PrAt s.heap xs.toArray[j] p := fun {xs rs} j g pr => by
    have g' : j < xs.length := by simpa using g
    obtain ⟨p, hp, z⟩ := paired_get pr (List.getElem?_eq_getElem g')
    exact ⟨p, hp, by simpa using z⟩
  intro E Q q
  refine wpAny_richCompare_same_room (op := .GtE) ⟨_, o1, rfl⟩ ⟨_, o2, rfl⟩ PySem.F.slot_list_ge (call_meetsIn PySem.F.slot_list_ge ⟨_, o1, rfl⟩ PySem.F.entry_list_ge (PySem.F.args_list_ge_2 _ _) (lstGeC a b us.toArray vs.toArray n1 n2 d1 d2 s1 s2 (fun j => decide (ps[j]? = qs[j]?)) (fun j => !gP ps qs j)) ⟨o1, o2, fun j g1 g2 => ?_, fun j g1 g2 _ => ?_, ?_⟩) (by lia)
  · obtain ⟨p, hp, z1⟩ := gt j g1 pa
    obtain ⟨q, hq, z2⟩ := gt j g2 pb
    rw [hp, hq, show decide (some p = some q) = decide (p = q) by rw [Bool.eq_iff_iff, decide_eq_true_eq, decide_eq_true_eq]; exact ⟨Option.some.inj, fun e => by rw [e]⟩]
    exact z1.eq z2 (by show A.units + 1 + 2 < cLine; lia)
  · obtain ⟨p, hp, z1⟩ := gt j g1 pa
    obtain ⟨q, hq, z2⟩ := gt j g2 pb
    rw [gP_at hp hq]
    exact z1.ge z2 (by show A.units + 1 + 2 < cLine; lia)
  · rw [List.size_toArray, List.size_toArray, l1, l2, ge_dec, scn_not, scn_P]
    exact ⟨(fun z => nomatch z), q⟩
end
section
variable {X : Cx}
def rGeP (K : PySem.W.Frag) : R2 := fun x y H Q => (∃ p q : Addr × PrS, x = .ref p.1 ∧ y = .ref q.1 ∧ SqT K H p.1 [.str p.2.1, .str p.2.2] ∧ SqT K H q.1 [.str q.2.1, .str q.2.2] ∧ Q (.bl (!ltP p.2 q.2)) H) ∨ ∃ x' y' : LsT, x = .ref x'.1 ∧ y = .ref y'.1 ∧ RwK K H x' ∧ RwK K H y' ∧ Q (.bl (!decide (keyP (x'.2.map (·.2)) < keyP (y'.2.map (·.2))))) H
theorem pr_at {pins : List (Addr × Obj)} {σ : St} {H : Hp} {s : Shared} (I : Inv X pins σ H s) {p : Addr × PrS} (h : SqT X.K H p.1 [.str p.2.1, .str p.2.2]) : PrAt s.heap (.ref p.1) p.2 := by
  obtain ⟨vs, r2, p2, z2⟩ := I.tuple h
  cases r2 with
  | cons ra r2 =>
    cases r2 with
    | cons rb r2 =>
      cases r2
      obtain ⟨ta, rfl⟩ := (show ∃ tk, _ = Value.str p.2.1 tk from ra)
      obtain ⟨tb, rfl⟩ := (show ∃ tk, _ = Value.str p.2.2 tk from rb)
      exact ⟨p.1, ta, tb, rfl, p2⟩
theorem op_geP (hu : X.A.units + 64 < cLine) : OpR X (compareOp .GtE) (rGeP X.K) := by
  intro pins s σ H x y v u Q I rx ry h
  rcases h with ⟨p, q, rfl, rfl, h1, h2, k⟩ | ⟨p, q, rfl, rfl, h1, h2, k⟩
  · cases rx
    cases ry
    exact (pr_at I h1).ge (P := X.prog) (w := X.w) (A := X.A) (pr_at I h2) (by lia) _ _ ⟨.bl _, H, I, rfl, k⟩
  · cases rx
    cases ry
    exact (RwK.at_ I h1).ge (P := X.prog) (w := X.w) (A := X.A) (RwK.at_ I h2) (by lia) _ _ ⟨.bl _, H, I, rfl, k⟩
theorem kGeP (K : PySem.W.Frag) {k : Nat} (hr : Room k X.A) (h : X.K = K := by rfl) : OpR X (compareOp .GtE) (rGeP K) := h ▸ op_geP hr.units
end
end L2
set_option Elab.async false
set_option linter.all false
set_option maxRecDepth 100000
set_option maxHeartbeats 4000000
namespace L2
open PySem PySem.Spec PyProof.Rows
def Itc (lo c : Int) (n : Nat) : It := ⟨fun i _ => i < n, fun i H x H' => H' = H ∧ x = .int (lo + i * c), fun i _ => n ≤ i⟩
theorem turn_rangeC {P : Program} {w : World} {K : PySem.W.Frag} {tg : Expr} (it : Addr) (lo c : Int) (n : Nat) : Turn P w K tg (Itc lo c n) [it] it (fun i h => IsRangeIter h it (lo + (i : Nat) * c) ((n : Int) - (i : Nat)) c) where
  mem := by simp
  obj := fun i h st b hb => by
    have e : b = it := by simpa using hb
    subst e
    exact ⟨_, st, fun v z => by
      have z' : Data.fields _ = Data.cell v := z
      cases z'⟩
  keep := fun i h h' st k => k it (by simp) _ st
  item := by
    intro X hP hw hK hc i pins s σ H E I hf st hg
    subst hP hw hK
    obtain ⟨f0, f1, f2, f3, f4, f5⟩ := hf it (by simp)
    have W := Walks.range (prog := X.prog) (w := X.w) (I.ok.hd hc) it lo c n
    refine W.item i s _ _ hg st fun v h' tk hv st' kk => ?_
    obtain ⟨t, rfl⟩ := hv
    have I1 : Inv X pins σ H { s with heap := h', toks := tk } := I.turned (fun b o hb e => kk b o (by simpa using hb) e) f0 f1 f3 f4 f5
    exact ⟨_, rfl, go_of (s := { s with heap := h', toks := tk }) (n := "range_iterator") st' rfl rfl (by decide) ⟨.int (lo + i * c), H, I1, ⟨t, rfl⟩, ⟨rfl, rfl⟩, st', fun b hb => (hf b hb).1⟩⟩
  done := by
    intro X hP hw hK hc i pins s σ H E I hf st hg
    subst hP hw hK
    obtain ⟨f0, f1, f2, f3, f4, f5⟩ := hf it (by simp)
    exact wpAny_pyNext_range_end (I.ok.hd hc) st (by have : n ≤ i := hg; omega) fun h' eb => ⟨rfl, I.turned (t' := s.toks) (fun b o hb e => eb b o hb e) f0 f1 f3 f4 f5⟩
  self := fun _ _ _ _ _ st h => wpAny_pyIter_rangeiter st h
theorem small_c {a b c : Int} (ha : 0 ≤ a) (hb : b < 2 ^ 40) (hb0 : 0 ≤ b) (ha1 : a < 2 ^ 40) (hc : 1 ≤ c) (hc1 : c < 2 ^ 20) : Builtin.Range.small a b c = true := by
  have h1 : Builtin.Range.rangeSize a b c < 2 ^ 62 ∧ 0 ≤ Builtin.Range.rangeSize a b c := by
    unfold Builtin.Range.rangeSize
    rw [if_pos (by omega)]
    split
    · have e1 : 0 ≤ (b - a - 1) / c := Int.ediv_nonneg (by omega) (by omega)
      have e2 : (b - a - 1) / c ≤ b - a - 1 := Int.ediv_le_self _ (by omega)
      exact ⟨by omega, by omega⟩
    · exact ⟨by omega, by omega⟩
  obtain ⟨g1, g2⟩ := h1
  unfold Builtin.Range.small
  simp only [Builtin.Range.rangeFitsLong, Bool.and_eq_true, Bool.or_eq_true, decide_eq_true_eq, beq_iff_eq, show c > 0 by omega, if_true]
  omega
section
variable {X : Cx} {tg : Expr}
theorem range_itC {pins : List (Addr × Obj)} {σ : St} {H : Hp} {s : Shared} {R : It → Hp → Prop} {E : Value → Shared → Prop} {lo hi c : Int} {n : Nat} {t u v : Tok} {tk : Nat} (I : Inv X pins σ H s) (hs : Builtin.Range.small lo hi c = true) (hn : Builtin.Range.rangeSize lo hi c = n)
    (q : R (Itc lo c n) H) : wpAny (model X.prog X.w) X.A (pyIter (.ref s.heap.objs.size)) (PIE X pins σ tg R) E { s with heap := s.heap.push { cls := .type "range", data := .fields #[.int lo t, .int hi u, .int c v] }, toks := tk } := by
  refine wpAny_pyIter_range (IsRange.new ..) hs ?_
  have I1 : Inv X pins σ H { s with heap := s.heap.push { cls := .type "range", data := .fields #[.int lo t, .int hi u, .int c v] }, toks := tk } := I.kept fun b o e => Heap.get?_push_of_some _ e
  refine ⟨(s.heap.push { cls := .type "range", data := .fields #[.int lo t, .int hi u, .int c v] }).objs.size, [(s.heap.push { cls := .type "range", data := .fields #[.int lo t, .int hi u, .int c v] }).objs.size], _, _, H, rfl,
    I1.kept (t' := tk) fun b o e => Heap.get?_push_of_some _ e, turn_rangeC _ lo c n, ?_, fun b hb => ?_, q⟩
  · have e1 : lo + ((0 : Nat) : Int) * c = lo := by simp
    have e2 : ((n : Nat) : Int) - ((0 : Nat) : Int) = Builtin.Range.rangeSize lo hi c := by rw [hn]; simp
    show IsRangeIter _ _ (lo + ((0 : Nat) : Int) * c) (((n : Nat) : Int) - ((0 : Nat) : Int)) c
    rw [e1, e2]
    exact Heap.get?_push_size _ rfl
  · have e : b = (s.heap.push { cls := .type "range", data := .fields #[.int lo t, .int hi u, .int c v] }).objs.size := by simpa using hb
    subst e
    exact I1.fpOk (Nat.le_refl _) (I1.hok.fresh (Nat.le_refl _))
def iRng3 (ta : TA) : TI := fun σ H R => ta σ H fun vs H1 => ∃ (i j c : Int) (n : Nat), vs = [.int i, .int j, .int c] ∧ (0 ≤ i ∧ i < 2 ^ 40 ∧ 0 ≤ j ∧ j < 2 ^ 40 ∧ 1 ≤ c ∧ c < 2 ^ 20) ∧ Builtin.Range.rangeSize i j c = n ∧ R (Itc i c n) H1
theorem pi_range3 {a b c : Expr} {ta : TA} {p pos : Pos} (hg : Gl X "range") (hm : X.mg "range" = none) (ha : PA X [a, b, c] ta) (hs : starEach [a, b, c] X.env = (false, eval a X.env) :: starEach [b, c] X.env) (hs2 : starEach [b, c] X.env = [(false, eval b X.env), (false, eval c X.env)]) :
    PI X tg (.Call (.Name "range" p) [a, b, c] [] pos) (iRng3 ta) := by
  intro pins s σ H R I h
  refine Call_ (ld_blt I hg hm boot_range (PyProof.Rows.callWith_type1 (thn (ha pos pins s σ H _ I h) fun us s1 ⟨vs, H1, I1, r1, q1⟩ => ?_) hs (by rw [hs2]; rfl)))
  obtain ⟨i, j, k, n, e, ⟨q1, q2, q3, q4, q5, q6⟩, q7, q⟩ := q1
  subst e
  cases r1 with
  | cons r rr =>
    cases rr with
    | cons r' rr =>
      cases rr with
      | cons r'' rr =>
        cases rr
        obtain ⟨t, rfl⟩ := r
        obtain ⟨t', rfl⟩ := r'
        obtain ⟨t'', rfl⟩ := r''
        exact call_range_3 (by omega) (range_itC I1 (small_c q1 q4 q3 q2 q5 q6) q7 q) (.inl (PyProof.noPylong_small (by omega)))
end
section
variable {X : Cx} {a b c : Expr} {t : TA} {p pos : Pos}
theorem qiR3 {tg : Expr} (hm : X.mg "range" = none) (ha : QA X [a, b, c] t) (hg : Gl X "range" := by rfl) (h : notStar a = true := by rfl) (h' : notStar b = true := by rfl) (h'' : notStar c = true := by rfl) : QI X tg (.Call (.Name "range" p) [a, b, c] [] pos) (tTwo (iRng3 t)) := ⟨(pi_range3 hg hm ha.r (se_of h) (by rw [se_of h', se_of h'']; rfl)).two⟩
theorem r_rng3 {σ : St} {H : Hp} {ta : TA} {R : It → Hp → Prop} (q : ta σ H fun vs H1 => ∃ (i j c : Int) (n : Nat), vs = [.int i, .int j, .int c] ∧ (0 ≤ i ∧ i < 2 ^ 40 ∧ 0 ≤ j ∧ j < 2 ^ 40 ∧ 1 ≤ c ∧ c < 2 ^ 20) ∧ Builtin.Range.rangeSize i j c = n ∧ R (Itc i c n) H1) : iRng3 ta σ H R := q
end
end L2
set_option Elab.async false
set_option linter.all false
set_option maxRecDepth 100000
set_option maxHeartbeats 1000000
namespace K41
open PySem PySem.Spec PyProof.Rows L2
def top (i : Nat) : Stmt := PySem.Challenge.pw_gluework_k41_overlaps_each_once.main.body.getD i (.Pass ⟨0, 0, 0, 0⟩)
abbrev s_tie_paired : Stmt := top 1
theorem sc_tie_paired : FnScope ["tie", "paired"] ["tie", "paired"] (defScope s_tie_paired) := ⟨rfl, rfl, rfl, by decide +kernel, rfl, by decide +kernel, by decide +kernel⟩
abbrev s_names_of : Stmt := top 2
theorem sc_names_of : FnScope ["named", "thing"] ["named", "thing"] (defScope s_names_of) := ⟨rfl, rfl, rfl, by decide +kernel, rfl, by decide +kernel, by decide +kernel⟩
abbrev s_point_partners : Stmt := top 3
theorem sc_point_partners : FnScope ["piece", "other"] ["piece", "other"] (defScope s_point_partners) := ⟨rfl, rfl, rfl, by decide +kernel, rfl, by decide +kernel, by decide +kernel⟩
abbrev s_tie_partners : Stmt := top 4
theorem sc_tie_partners : FnScope ["piece", "other", "paired"] ["piece", "other", "paired"] (defScope s_tie_partners) := ⟨rfl, rfl, rfl, by decide +kernel, rfl, by decide +kernel, by decide +kernel⟩
abbrev s_pairings : Stmt := top 5
theorem sc_pairings : FnScope ["partners", "rows", "name", "longer", "row", "used"] ["partners"] (defScope s_pairings) := ⟨rfl, rfl, rfl, by decide +kernel, rfl, by decide +kernel, by decide +kernel⟩
abbrev s_overlaps : Stmt := top 6
theorem sc_overlaps : FnScope ["piece", "other", "told", "points", "ties"] ["piece", "other"] (defScope s_overlaps) := ⟨rfl, rfl, rfl, by decide +kernel, rfl, by decide +kernel, by decide +kernel⟩
abbrev s__law_cell_at : Stmt := top 8
theorem sc__law_cell_at : FnScope ["_law_script", "_law_k"] ["_law_script", "_law_k"] (defScope s__law_cell_at) := ⟨rfl, rfl, rfl, by decide +kernel, rfl, by decide +kernel, by decide +kernel⟩
abbrev s__law_mix : Stmt := top 9
theorem sc__law_mix : FnScope ["_law_cell", "_law_k"] ["_law_cell", "_law_k"] (defScope s__law_mix) := ⟨rfl, rfl, rfl, by decide +kernel, rfl, by decide +kernel, by decide +kernel⟩
abbrev s__law_names : Stmt := top 10
theorem sc__law_names : FnScope ["_law_mixed", "_law_many", "_law_letters", "_law_size", "_law_at", "_law_names_here", "_law_k", "_law_name", "_law_j", "_law_place"] ["_law_mixed", "_law_many"] (defScope s__law_names) := ⟨rfl, rfl, rfl, by decide +kernel, rfl, by decide +kernel, by decide +kernel⟩
abbrev s__law_piece : Stmt := top 11
theorem sc__law_piece : FnScope ["_law_cells", "_law_names_here", "_law_points_most", "_law_ties_most", "_law_kinds", "_law_points", "_law_ties", "_law_k", "_law_mixed", "_law_some", "_law_full", "_law_start", "_law_end"] ["_law_cells", "_law_names_here", "_law_points_most", "_law_ties_most", "_law_kinds"] (defScope s__law_piece) := ⟨rfl, rfl, rfl, by decide +kernel, rfl, by decide +kernel, by decide +kernel⟩
abbrev s__law_fits : Stmt := top 12
theorem sc__law_fits : FnScope ["_law_piece_here", "_law_other", "_law_there", "_law_name", "_law_to", "_law_kind", "_law_start", "_law_end"] ["_law_piece_here", "_law_other", "_law_there", "_law_name"] (defScope s__law_fits) := ⟨rfl, rfl, rfl, by decide +kernel, rfl, by decide +kernel, by decide +kernel⟩
abbrev s__law_may : Stmt := top 13
theorem sc__law_may : FnScope ["_law_piece_here", "_law_other", "_law_there", "_law_name", "_law_to", "_law_more"] ["_law_piece_here", "_law_other", "_law_there", "_law_name", "_law_to"] (defScope s__law_may) := ⟨rfl, rfl, rfl, by decide +kernel, rfl, by decide +kernel, by decide +kernel⟩
abbrev s__law_all : Stmt := top 14
theorem sc__law_all : FnScope ["_law_web"] ["_law_web"] (defScope s__law_all) := ⟨rfl, rfl, rfl, by decide +kernel, rfl, by decide +kernel, by decide +kernel⟩
abbrev s__law_count : Stmt := top 15
theorem sc__law_count : FnScope ["_law_piece_here", "_law_other", "_law_names_here", "_law_there", "_law_count_here", "_law_to", "_law_more"] ["_law_piece_here", "_law_other", "_law_names_here", "_law_there"] (defScope s__law_count) := ⟨rfl, rfl, rfl, by decide +kernel, rfl, by decide +kernel, by decide +kernel⟩
abbrev s__law_right : Stmt := top 16
theorem sc__law_right : FnScope ["_law_found", "_law_piece_here", "_law_other", "_law_there", "_law_k", "_law_name", "_law_to"] ["_law_found", "_law_piece_here", "_law_other"] (defScope s__law_right) := ⟨rfl, rfl, rfl, by decide +kernel, rfl, by decide +kernel, by decide +kernel⟩
abbrev s__law_asked : Stmt := top 17
theorem sc__law_asked : FnScope ["_law_script", "_law_at", "_law_first", "_law_names_here", "_law_others", "_law_kinds", "_law_most", "_law_piece_here", "_law_other", "_law_handed", "_law_found", "_law_k", "_law_due", "_law_pairs"] ["_law_script", "_law_at", "_law_first"] (defScope s__law_asked) := ⟨rfl, rfl, rfl, by decide +kernel, rfl, by decide +kernel, by decide +kernel⟩
abbrev s_law : Stmt := top 18
theorem sc_law : FnScope ["_law_script", "_law_first", "_law_at"] ["_law_script"] (defScope s_law) := ⟨rfl, rfl, rfl, by decide +kernel, rfl, by decide +kernel, by decide +kernel⟩
structure Txt (K : PySem.W.Frag) (mg : Str → Option Value) : Prop where
  b_all : mg "all" = none
  b_dict : mg "dict" = none
  b_int : mg "int" = none
  b_isinstance : mg "isinstance" = none
  b_len : mg "len" = none
  b_list : mg "list" = none
  b_max : mg "max" = none
  b_min : mg "min" = none
  b_range : mg "range" = none
  b_sorted : mg "sorted" = none
  b_str : mg "str" = none
  b_tuple : mg "tuple" = none
def NewS (H : Hp) (Q : VK) (P : List Str → Prop) : Prop := ∀ (p : Addr) (H' : Hp) (ss : List Str), H p = none → Same H H' → H' p = some (.lst (ss.map V.str)) → P ss → Q (.ref p) H'
def nmsW (W : Web) : List Str := W.pts.map (·.1) ++ W.ts.map (·.1)
structure WebIs (n : Nat) (K : PySem.W.Frag) (H : Hp) (a p q : Addr) (kvs : List (Key × V)) (W : Web) : Prop where
  at_ : WebAt K H a p q kvs W
  hp : H p = some (.dK (pKV W.pts))
  hq : H q = some (.dK kvs)
  ne : p ≠ q
  nd : (nmsW W).Nodup
  len : (nmsW W).length ≤ n
  ends : ∀ x ∈ W.ts, x.2.2.1 ∈ W.pts.map (·.1) ∧ x.2.2.2 ∈ W.pts.map (·.1)
  nl : ∀ x ∈ nmsW W, x.length ≤ 100
  qm : ("?" : Str) ∉ nmsW W
theorem WebIs.same {n : Nat} {K : PySem.W.Frag} {H H' : Hp} {a p q : Addr} {kvs : List (Key × V)} {W : Web} (h : WebIs n K H a p q kvs W) (s : Same H H') : WebIs n K H' a p q kvs W := ⟨h.at_.mono s.le, s _ _ h.hp, s _ _ h.hq, h.ne, h.nd, h.len, h.ends, h.nl, h.qm⟩
def NewW (n : Nat) (K : PySem.W.Frag) (H : Hp) (Q : VK) : Prop := ∀ (a p q : Addr) (kvs : List (Key × V)) (W : Web) (H' : Hp), Same H H' → WebIs n K H' a p q kvs W → W.pts.length ≤ 4 → W.ts.length ≤ 4 → Q (.ref a) H'
def sp__law_cell_at (K : PySem.W.Frag) : Sp := fun vs H Q _ => ∃ (a : Addr) (ns : List Int) (k : Int), vs = [.ref a, .int k] ∧ SqL K H a (ns.map V.int) ∧ ns.length ≤ 63 ∧ 0 ≤ k ∧ ∀ m : Int, Q (.int m) H
def sp__law_mix (K : PySem.W.Frag) : Sp := fun vs H Q _ => ∃ c k : Int, vs = [.int c, .int k] ∧ 0 ≤ k ∧ k ≤ 1000 ∧ ∀ m : Int, 0 ≤ m → Q (.int m) H
def sp__law_names (K : PySem.W.Frag) : Sp := fun vs H Q _ => ∃ c : Int, vs = [.int c, .int 6] ∧ 0 ≤ c ∧ NewS H Q fun ss => ss.length = 6 ∧ ss.Nodup ∧ (∀ s ∈ ss, s.length ≤ 8) ∧ ("?" : Str) ∉ ss
local macro_rules | `(tactic| walk_at "b") => `(tactic| (intro _ _ _ _ _ _ us hl; first | exact bn0 hl rfl | exact bn1 hl fun _ => rfl | exact bn2 hl fun _ _ => rfl | exact bn3 hl fun _ _ _ => rfl | exact bn4 hl fun _ _ _ _ => rfl | exact bn5 hl fun _ _ _ _ _ => rfl | exact bn6 hl fun _ _ _ _ _ _ => rfl))
local macro_rules | `(tactic| walk_at "E") => `(tactic| first
  | (with_reducible (first | refine r_par ?_ | refine r_raise ?_ | refine r_fs ?_ | refine r_callE ?_ | refine r_asg ?_ | refine r_name ?_ | refine r_C ?_ | refine r_op ?_ | refine r_ifS ?_ | refine r_ret ?_ | refine r_drop ?_ | refine r_next ?_ | refine r_for ?_ | refine r_comp ?_ | refine r_it ?_ | refine r_items ?_ | refine r_valuesI ?_ | refine r_rev ?_ | refine r_dz ?_ | refine r_rng1 ?_ | refine r_two ?_ | refine r_if0 ?_ | refine r_test ?_ | refine r_bl ?_ | refine r_tru ?_ | refine r_not ?_ | refine r_and ?_ | refine r_or ?_ | refine r_andV ?_ | refine r_orV ?_ | refine r_notV ?_ | refine r_if ?_ | refine r_nil ?_ | refine r_cons ?_ | refine r_call ?_ | refine r_cb ?_ | refine r_sl ?_ | refine r_noPart ?_ | refine r_part ?_ | refine r_int ?_ | refine r_chain ?_ | refine r_add_int ?_ | refine r_i0 ?_ | refine r_lt_int ?_ | refine r_lt_str ?_ | refine r_eq_int ?_ | refine r_eq_bl ?_ | refine r_eq_str ?_ | refine r_in_sgn ?_ | refine r_notIn_sgn ?_ | refine r_is ?_ | refine w_eq_int ?_ | refine w_eq_bl ?_ | refine w_eq_str ?_ | refine r_ne_int ?_ | refine w_ne_int ?_ | refine w_ne_bl ?_ | refine w_ne_str ?_ | refine n_ne_int ?_ | refine n_ne_bl ?_ | refine n_ne_str ?_ | refine r_get ?_ | refine r_enum2 ?_ | refine r_gsub ?_ | refine r_enum ?_ | refine r_zip ?_ | refine r_gCons ?_ | refine r_gNil ?_ | refine r_bm ?_ | refine r_bm0 ?_ | refine r_un ?_ | refine r_neg ?_ | refine r_isN ?_ | refine r_it_str ?_ | refine r_tup ?_ | refine r_lst ?_ | refine iteT ?_ | refine iteF ?_ | refine iteNF ?_ | refine iteNT ?_))
  | ((with_reducible refine' r_var ?h ?_); (case h => rfl))
  | with_reducible refine r_truT _ ?_
  | ((with_reducible refine' r_mul_int ?c ?_); (case c => (unfold CMul; omega)))
  | ((with_reducible refine' r_i ?c ?_); (case c => (first | omega | (dsimp only <;> omega) | (unfold CMul; omega) | (unfold CDiv; omega) | (unfold CPow; decide) | exact Int.pow_pos (by decide)))))
local macro_rules | `(tactic| walk_at "R") => `(tactic| first | with_reducible refine r_seq ?_ | with_reducible refine r_try ?_ | walk_at "E")
section
variable {P : Program} {w : World} {K : PySem.W.Frag} {mg : Str → Option Value} {base : Heap}
def letS (i : Int) : Nat := ("abcdefghijklmnopqrstuvwxyz" : Str).cps.toList.getD i.toNat 0
theorem let_is (i : Int) (h0 : 0 ≤ i) (h1 : i < 26) : atI ("abcdefghijklmnopqrstuvwxyz" : Str).cps.toList i = some (letS i) := by
  have hl : ("abcdefghijklmnopqrstuvwxyz" : Str).cps.toList.length = 26 := by decide +kernel
  obtain ⟨v, hv, hv2⟩ := atI_in (xs := ("abcdefghijklmnopqrstuvwxyz" : Str).cps.toList) h0 (by rw [hl]; exact h1)
  rw [hv]
  unfold letS
  rw [List.getD_eq_getElem?_getD, hv2]; rfl
theorem letS_inj : ∀ i j : Nat, i < 26 → j < 26 → letS i = letS j → i = j := by
  have h : ∀ i, i < 26 → ∀ j, j < 26 → letS (i : Nat) = letS (j : Nat) → i = j := by decide +kernel
  exact fun i j hi hj => h i hi j hj
theorem nd_range {f : Nat → Str} : ∀ {n : Nat}, (∀ i j, i < n → j < n → f i = f j → i = j) → ((List.range n).map f).Nodup
  | 0, _ => List.nodup_nil
  | n + 1, h => by
    rw [List.range_succ, List.map_append]
    refine nd_snoc (nd_range fun i j hi hj => h i j (by omega) (by omega)) fun m => ?_
    obtain ⟨i, hi, e⟩ := List.mem_map.mp m
    have hi' := List.mem_range.mp hi
    have z := h i n (by omega) (by omega) e
    omega
theorem let_small : ("abcdefghijklmnopqrstuvwxyz" : Str).length ≤ sizeLine := by decide +kernel
abbrev kSL : Str := "abcdefghijklmnopqrstuvwxyz"
theorem all_flat (ss : List Str) : (ss.map V.str).all flatV = true := by
  rw [List.all_map, List.all_eq_true]; intro _ _; rfl
theorem tie_upd {K : PySem.W.Frag} {H : Hp} {d : Addr} {k1 k2 kv : _} {x : Str × Tie} (h : H d = some (.dK k1)) (t : TieAt K H kv x) : TieAt K (upd H d (.dK k2)) kv x := by
  obtain ⟨e, a, ea, s⟩ := t
  refine ⟨e, a, ea, ?_⟩
  rcases s with s | s
  · refine .inl ?_
    by_cases z : a = d
    · subst z
      rcases s with s | ⟨_, s⟩ <;> (rw [h] at s; cases s)
    · unfold Rd
      rw [upd_ne z]; exact s
  · exact .inr s
theorem sUpd0 {H H1 : Hp} {d : Addr} {o : HO} (s : Same H H1) (h : H d = none) : Same H (upd H1 d o) := fun b u e => by
  rw [upd_ne (ne_of_none e h)]; exact s _ _ e
theorem atI_strs {ss : List Str} {i : Int} (h0 : 0 ≤ i) (h1 : i < ss.length) : ∃ x, atI (ss.map V.str) i = some (.str x) ∧ x ∈ ss := by
  obtain ⟨v, hv, hv2⟩ := atI_in (xs := ss.map V.str) h0 (by rw [List.length_map]; exact h1)
  rw [List.getElem?_map] at hv2
  obtain ⟨x, hx, e⟩ := Option.map_eq_some_iff.mp hv2
  exact ⟨x, by rw [hv, e], List.mem_of_getElem? hx⟩
theorem map_inr {α : Type} (l : List (Str × α)) : (l.map (·.1)).map (Sum.inr : Str → Key) = l.map fun x => Sum.inr x.1 := by rw [List.map_map]; rfl
theorem inr_mem {l : List Str} {n : Str} (h : (Sum.inr n : Key) ∈ l.map (Sum.inr : Str → Key)) : n ∈ l := by
  obtain ⟨x, hx, e⟩ := List.mem_map.mp h
  rw [← Sum.inr.inj e]; exact hx
theorem valV_fresh {kvs : List (Key × V)} {k : Key} (h : k ∉ kvs.map (·.1)) : valV kvs k = none := by
  cases e : valV kvs k with
  | none => rfl
  | some v => exact absurd (valV_in e) h
theorem nd_mid {a : List (Str × Str)} {b : List (Str × Tie)} {n s : Str} (h : (a.map (·.1) ++ b.map (·.1)).Nodup) (f : n ∉ a.map (·.1) ++ b.map (·.1)) : ((a ++ [(n, s)]).map (·.1) ++ b.map (·.1)).Nodup := by
  have z := nd_snoc h f
  refine (List.Perm.nodup_iff ?_).mpr z
  rw [List.map_append, List.append_assoc, List.append_assoc]
  exact List.Perm.append_left _ List.perm_append_comm
theorem mem_mid {a : List (Str × Str)} {b : List (Str × Tie)} {n s : Str} {l : List Str} (h : ∀ x ∈ a.map (·.1) ++ b.map (·.1), x ∈ l) (f : n ∈ l) : ∀ x ∈ (a ++ [(n, s)]).map (·.1) ++ b.map (·.1), x ∈ l := by
  intro x hx
  rw [List.map_append, List.append_assoc] at hx
  rcases List.mem_append.mp hx with h' | h'
  · exact h x (List.mem_append_left _ h')
  · rcases List.mem_append.mp h' with h2 | h2
    · have : x = n := by simpa using h2
      rw [this]; exact f
    · exact h x (List.mem_append_right _ h2)
theorem paired_snoc {α β : Type} {F : α → β → Prop} : ∀ {l : List α} {m : List β} {a : α} {b : β}, Paired F l m → F a b → Paired F (l ++ [a]) (m ++ [b])
  | _, _, _, _, .nil, h => .cons h .nil
  | _, _, _, _, .cons r t, h => .cons r (paired_snoc t h)
theorem valV_nd : ∀ {kvs : List (Key × V)} {kv : Key × V}, (kvs.map (·.1)).Nodup → kv ∈ kvs → valV kvs kv.1 = some kv.2
  | p :: r, kv, nd, h => by
    have nd' := List.nodup_cons.mp (show (p.1 :: r.map (·.1)).Nodup from nd)
    rcases List.mem_cons.mp h with z | z
    · rw [z]; exact valV_pos rfl
    · rw [valV_neg fun e => nd'.1 (by rw [e]; exact List.mem_map.mpr ⟨kv, z, rfl⟩)]
      exact valV_nd nd'.2 z
theorem puts_app : ∀ {r a : List (Key × V)}, ((a ++ r).map (·.1)).Nodup → r.foldl (fun a x => putK a x.1 x.2) a = a ++ r
  | [], a, _ => by simp
  | p :: r, a, nd => by
    rw [List.foldl_cons]
    have nd' : ((a ++ [p] ++ r).map (·.1)).Nodup := by rw [List.append_assoc]; exact nd
    have hf : p.1 ∉ a.map (·.1) := fun m => by
      rw [List.map_append] at nd
      exact (List.nodup_append.mp nd).2.2 p.1 m p.1 (by simp) rfl
    rw [putK_new p.2 (valV_fresh hf), puts_app (r := r) (a := a ++ [(p.1, p.2)]) nd', List.append_assoc]; rfl
theorem putsK_nd {kvs : List (Key × V)} (nd : (kvs.map (·.1)).Nodup) : putsK kvs = kvs := by
  unfold putsK
  rw [puts_app (by simpa using nd)]; rfl
theorem PrV.mono {K : PySem.W.Frag} {H H' : Hp} {x : V} {kv : Key × V} (l : Le H H') (h : PrV K H x kv) : PrV K H' x kv := let ⟨t, e, s⟩ := h; ⟨t, e, l.tup s⟩
theorem pKV_len (pts : List (Str × Str)) : (pKV pts).length = pts.length := by unfold pKV; rw [List.length_map]
theorem pKV_get {pts : List (Str × Str)} {i : Nat} {kv : Key × V} (h : (pKV pts)[i]? = some kv) : ∃ x, pts[i]? = some x ∧ kv = (Sum.inr x.1, .str x.2) := by
  unfold pKV at h
  rw [List.getElem?_map] at h
  obtain ⟨x, hx, e⟩ := Option.map_eq_some_iff.mp h
  exact ⟨x, hx, e.symm⟩
theorem same_new {D d : Addr} {kvs : List (Key × V)} {o : Obj} {u : HO} {H H1 : Hp} (h : H d = some (.dK kvs)) (s : Same (frzD d o kvs H) H1) (hD : H1 D = none) : Same H (thaw d (upd H1 D u)) :=
  Same.thaw h fun b v z => by rw [upd_ne (ne_of_none (s _ _ z) hD)]; exact s _ _ z
theorem at_new {D d : Addr} {kvs : List (Key × V)} {o : Obj} {u : HO} {H H1 : Hp} (s : Same (frzD d o kvs H) H1) (hD : H1 D = none) : (thaw d (upd H1 D u)) D = some u := by
  have hDq : D ≠ d := fun z => by rw [z, s _ _ upd_same] at hD; cases hD
  rw [thaw_ne hDq, upd_same]
theorem le_new {D d : Addr} {u : HO} {H1 : Hp} (hD : H1 D = none) : Le H1 (thaw d (upd H1 D u)) := by
  have s : Same H1 (upd H1 D u) := fun b v z => by rw [upd_ne (ne_of_none z hD)]; exact z
  exact s.le.trans le_thaw
theorem nd_pKV' {pts : List (Str × Str)} (h : (pts.map (·.1)).Nodup) : ((pKV pts).map (·.1)).Nodup := by
  rw [pKV_keys, ← map_inr]
  refine List.Pairwise.map _ ?_ h
  exact fun a b h z => h (Sum.inr.inj z)
theorem nd_fst_uniq {α : Type} : ∀ {l : List (Str × α)} {n : Str} {x y : α}, (l.map (·.1)).Nodup → (n, x) ∈ l → (n, y) ∈ l → x = y
  | p :: r, n, x, y, nd, hx, hy => by
    have nd' := List.nodup_cons.mp (show (p.1 :: r.map (·.1)).Nodup from nd)
    rcases List.mem_cons.mp hx with zx | zx
    · rcases List.mem_cons.mp hy with zy | zy
      · have := zx.trans zy.symm
        exact (Prod.mk.inj this).2
      · exact absurd (List.mem_map.mpr ⟨(n, y), zy, by rw [← zx]⟩) nd'.1
    · rcases List.mem_cons.mp hy with zy | zy
      · exact absurd (List.mem_map.mpr ⟨(n, x), zx, by rw [← zy]⟩) nd'.1
      · exact nd_fst_uniq nd'.2 zx zy
theorem val_tie {K : PySem.W.Frag} {H : Hp} {kvs : List (Key × V)} {ts : List (Str × Tie)} {n : Str} {t : Tie} (w : TiesIs K H kvs ts) (nd : (ts.map (·.1)).Nodup) (h : (n, t) ∈ ts) : ∃ a, valV kvs (Sum.inr n : Key) = some (.ref a) ∧ SqT K H a (tieV t) := by
  obtain ⟨a, x, h1, h2, h3⟩ := TiesIs.val (ts := ts) w (List.mem_map.mpr ⟨(n, t), h, rfl⟩)
  rw [nd_fst_uniq nd h h2]; exact ⟨a, h1, h3⟩
theorem val_pt {pts : List (Str × Str)} {n k : Str} (nd : (pts.map (·.1)).Nodup) (h : (n, k) ∈ pts) : valV (pKV pts) (Sum.inr n : Key) = some (.str k) :=
  valV_nd (kv := (Sum.inr n, .str k)) (nd_pKV' nd) (List.mem_map.mpr ⟨(n, k), h, rfl⟩)
theorem inV_strs {n : Str} : ∀ {gs : List Str}, inV (.str n) (gs.map V.str) = decide (n ∈ gs)
  | [] => rfl
  | g :: r => by
    show (eqV (.str g) (.str n) || inV (.str n) (r.map V.str)) = _
    rw [inV_strs (gs := r), show eqV (.str g) (.str n) = decide (g = n) by unfold eqV; rw [Bool.eq_iff_iff]; simp]
    rw [Bool.eq_iff_iff]
    simp
    constructor
    · rintro (h | h)
      · exact .inl h.symm
      · exact .inr h
    · rintro (h | h)
      · exact .inl h.symm
      · exact .inr h
theorem notIn_strs {K : PySem.W.Frag} {H : Hp} {Q : VK} {l : Addr} {gs : List Str} {n : Str} (h : SqL K H l (gs.map V.str)) (q : Q (.bl (!decide (n ∈ gs))) H) : rNotInX K (.str n) (.ref l) H Q :=
  .inr (.inl ⟨l, _, rfl, .inl h, rfl, all_flat _, by rw [if_pos rfl, inV_strs]; exact q⟩)
theorem in_strs {K : PySem.W.Frag} {H : Hp} {Q : VK} {l : Addr} {gs : List Str} {n : Str} (h : SqL K H l (gs.map V.str)) (q : Q (.bl (decide (n ∈ gs))) H) : rInX K (.str n) (.ref l) H Q :=
  r_in_seq (.inl h) rfl (all_flat _) (by rw [inV_strs]; exact q)
theorem val_in_pts {pts : List (Str × Str)} {n : Str} : (valV (pKV pts) (Sum.inr n : Key)).isSome = decide (n ∈ pts.map (·.1)) := by
  rw [← valV_any, Bool.eq_iff_iff, List.any_eq_true, decide_eq_true_eq]
  constructor
  · rintro ⟨kv, hkv, e⟩
    obtain ⟨x, hx, rfl⟩ := List.mem_map.mp hkv
    exact List.mem_map.mpr ⟨x, hx, Sum.inr.inj (of_decide_eq_true e)⟩
  · intro m
    obtain ⟨x, hx, rfl⟩ := List.mem_map.mp m
    exact ⟨_, List.mem_map.mpr ⟨x, hx, rfl⟩, decide_eq_true rfl⟩
theorem val_in_ts {K : PySem.W.Frag} {H : Hp} {kvs : List (Key × V)} {ts : List (Str × Tie)} {n : Str} (w : TiesIs K H kvs ts) : (valV kvs (Sum.inr n : Key)).isSome = decide (n ∈ ts.map (·.1)) := by
  by_cases hn : n ∈ ts.map (·.1)
  · obtain ⟨a, x, h1, _⟩ := TiesIs.val (ts := ts) w hn
    rw [h1, decide_eq_true hn]; rfl
  · cases e : valV kvs (Sum.inr n : Key) with
    | none => simp [hn]
    | some v =>
      have z := valV_in e
      rw [w.keys, ← map_inr] at z
      exact absurd (inr_mem z) hn
theorem eqH_of {K : PySem.W.Frag} {H : Hp} {kb : List (Key × V)} : ∀ {ka : List (Key × V)}, (∀ kv ∈ ka, ∃ y, valV kb kv.1 = some y ∧ Eq1 K H kv.2 y true) → EqH K H kb ka true
  | [], _ => .nil
  | kv :: r, h => by
    obtain ⟨y, h1, h2⟩ := h kv List.mem_cons_self
    exact EqH.hit (e := true) (b := true) h1 h2 (eqH_of fun x hx => h x (List.mem_cons_of_mem _ hx))
theorem eq1_str {K : PySem.W.Frag} {H : Hp} (s : Str) : Eq1 K H (.str s) (.str s) true := by
  have z := Eq1.flat (K := K) (H := H) (x := .str s) (y := .str s) rfl rfl
  rw [eqV_refl rfl] at z; exact z
theorem eq1_ties {K : PySem.W.Frag} {H : Hp} {a b : Addr} {t : Tie} (h : SqT K H a (tieV t)) (h' : SqT K H b (tieV t)) : Eq1 K H (.ref a) (.ref b) true := by
  have z := Eq1.tup h h' rfl rfl
  rw [eqVs_refl rfl] at z; exact z
theorem eqD_pts {K : PySem.W.Frag} {H : Hp} {p p' : Addr} {pts pts' : List (Str × Str)} (hne : p ≠ p') (h1 : Rd H p (.dK (pKV pts))) (h2 : Rd H p' (.dK (pKV pts'))) (pm : pts.Perm pts') (nd : (pts'.map (·.1)).Nodup) : EqD K H p p' true :=
  .inr ⟨hne, _, _, true, h1, h2, eqH_of fun kv hkv => by
    obtain ⟨x, hx, rfl⟩ := List.mem_map.mp hkv
    exact ⟨_, val_pt nd (pm.mem_iff.mp hx), eq1_str _⟩, by rw [pKV_len, pKV_len, pm.length_eq]; simp⟩
theorem eqD_ties {K : PySem.W.Frag} {H : Hp} {q q' : Addr} {kvs kvs' : List (Key × V)} {ts ts' : List (Str × Tie)} (hne : q ≠ q') (h1 : Rd H q (.dK kvs)) (h2 : Rd H q' (.dK kvs')) (w : TiesIs K H kvs ts) (w' : TiesIs K H kvs' ts') (pm : ts.Perm ts') (nd : (ts'.map (·.1)).Nodup) : EqD K H q q' true :=
  .inr ⟨hne, _, _, true, h1, h2, eqH_of fun kv hkv => by
    obtain ⟨i, hi⟩ := List.getElem?_of_mem hkv
    obtain ⟨x, hx, ex, b, eb, sb⟩ := w.get hi
    obtain ⟨c, e1, e2⟩ := val_tie w' nd (pm.mem_iff.mp (List.mem_of_getElem? hx))
    refine ⟨.ref c, by rw [ex]; exact e1, ?_⟩
    rw [eb]; exact eq1_ties sb e2, by rw [w.length, w'.length, pm.length_eq]; simp⟩
abbrev C__law_cell_at (P : Program) (w : World) (K : PySem.W.Frag) (mg : Str → Option Value) (base : Heap) : Prop := Cal P w K mg base CX0 1 "_law_cell_at" ["_law_script", "_law_k"] [] (sp__law_cell_at K)
theorem ok__law_cell_at {f : Addr} {fd : FuncData} (T : Txt K mg) (F : Fun K "_law_cell_at" "_law_cell_at" s__law_cell_at f fd) : FnOk P w K mg base CX0 1 f fd ["_law_script", "_law_k"] (sp__law_cell_at K) := by
  refine F.ok sc__law_cell_at (fun vs H Q E h => ?_) (fun cdv A outer s H vs Q E hr h => ?_)
  · obtain ⟨a, ns, k, rfl, _⟩ := h
    rfl
  · obtain ⟨a, ns, k, rfl, hA, hl, h0, q⟩ := h
    have hN := sc__law_cell_at.nd
    have hu := hu_le hr
    refine ⟨_, QSs.r (qsC (qIf (qtCmp op_ltX (qV 1) (qB (kLenP K P w) T.b_len Boot.«len» (qa1 (qV 0) qa0)) (nomark _)) (qs1 (qRet (qIx (kIx K hu) (qV 0) (qV 1) (fun _ _ => rfl)))) qs0)
      (qs1 (qRet qInt))), ?_⟩
    repeat walk_at "R"
    refine l_len (r_len_lst hA ?_)
    rw [List.length_map]
    repeat walk_at "R"
    refine r_ite (fun h1 => ?_) (fun h1 => ?_)
    · repeat walk_at "R"
      obtain ⟨v, hv, hv'⟩ := atI_in (xs := ns.map V.int) (i := k) h0 (by rw [List.length_map]; exact h1)
      rw [List.getElem?_map] at hv'
      obtain ⟨m, _, rfl⟩ := Option.map_eq_some_iff.mp hv'
      refine r_ix_lst hA hv ?_
      exact q m
    · repeat walk_at "R"
      exact q 0
abbrev C__law_mix (P : Program) (w : World) (K : PySem.W.Frag) (mg : Str → Option Value) (base : Heap) : Prop := Cal P w K mg base CX0 1 "_law_mix" ["_law_cell", "_law_k"] [] (sp__law_mix K)
theorem ok__law_mix {f : Addr} {fd : FuncData} (T : Txt K mg) (F : Fun K "_law_mix" "_law_mix" s__law_mix f fd) : FnOk P w K mg base CX0 1 f fd ["_law_cell", "_law_k"] (sp__law_mix K) := by
  refine F.ok sc__law_mix (fun vs H Q E h => ?_) (fun cdv A outer s H vs Q E hr h => ?_)
  · obtain ⟨c, k, rfl, _⟩ := h
    rfl
  · obtain ⟨c, k, rfl, h0, h1, q⟩ := h
    have hN := sc__law_mix.nd
    have hu := hu_le hr
    refine ⟨_, QSs.r (qs1 (qRet (qOp op_mod (qOp (kAdd K) (qOp (kAdd K) (qOp (kAdd K) (qOp op_mulY (qV 0) qInt) (qOp op_mulY (qOp op_mulY (qV 1) (qV 1)) qInt)) (qOp op_mulY qInt (qV 1))) qInt) qInt))), ?_⟩
    repeat walk_at "R"
    exact q _ (Int.emod_nonneg _ (by decide))
def strL (l : List Nat) : Str := ⟨l.toArray⟩
theorem strL_snoc (l : List Nat) (c : Nat) : strL l ++ (⟨#[c]⟩ : Str) = strL (l ++ [c]) := by
  unfold strL
  show (⟨l.toArray ++ #[c]⟩ : Str) = _
  congr 1
  simp
theorem strL_inj {l m : List Nat} (h : strL l = strL m) : l = m := by
  have := congrArg (fun s : Str => s.cps.toList) h
  simpa [strL] using this
theorem strL_len (l : List Nat) : (strL l).length = l.length := by
  show l.toArray.size = _
  simp
def plN (c at_ : Int) (k j : Nat) : Int := (c / 64 + (j : Int) * (j : Int) + if (j : Int) = at_ then 3 * (k : Int) else 0) % 26
def nameL (c at_ : Int) (k i : Nat) : List Nat := (List.range i).map fun j : Nat => letS (plN c at_ k j)
theorem nameL_succ (c at_ : Int) (k i : Nat) : nameL c at_ k (i + 1) = nameL c at_ k i ++ [letS (plN c at_ k i)] := by
  unfold nameL
  rw [List.range_succ, List.map_append]; rfl
theorem nameL_len (c at_ : Int) (k i : Nat) : (nameL c at_ k i).length = i := by
  unfold nameL; rw [List.length_map, List.length_range]
def nameS (c at_ : Int) (n k : Nat) : Str := strL (nameL c at_ k n)
theorem name_nd {c at_ : Int} {n m : Nat} (h0 : 0 ≤ at_) (h1 : at_ < n) (hm : m ≤ 26) : ((List.range m).map (nameS c at_ n)).Nodup := nd_range fun i j hi hj e => by
  have z := strL_inj e
  have z2 := congrArg (fun l => l[at_.toNat]?) z
  unfold nameL at z2
  simp only [List.getElem?_map, List.getElem?_range (show at_.toNat < n by omega), Option.map_some, Option.some.injEq] at z2
  unfold plN at z2
  rw [if_pos (by omega), if_pos (by omega)] at z2
  generalize (at_.toNat : Int) * (at_.toNat : Int) = w at z2
  generalize c / 64 = b at z2
  have e1 : (b + w + 3 * (i : Int)) % 26 = (((b + w + 3 * (i : Int)) % 26).toNat : Int) := by omega
  have e2 : (b + w + 3 * (j : Int)) % 26 = (((b + w + 3 * (j : Int)) % 26).toNat : Int) := by omega
  rw [e1, e2] at z2
  have z3 := letS_inj _ _ (by omega) (by omega) z2
  omega
theorem letS_qm : ∀ i : Nat, i < 26 → letS i ≠ 63 := by decide +kernel
theorem name_qm {c at_ : Int} {n k : Nat} (hn : 0 < n) : nameS c at_ n k ≠ "?" := fun e => by
  have e1 : ("?" : Str).cps.toList = [63] := by decide +kernel
  have e2 := congrArg (fun s : Str => s.cps.toList) e
  have e3 : nameL c at_ k n = [63] := by rw [← e1, ← e2]; rfl
  have e4 := congrArg (fun l => l[0]?) e3
  unfold nameL at e4
  simp only [List.getElem?_map, List.getElem?_range hn, Option.map_some, List.getElem?_cons_zero, Option.some.injEq] at e4
  have h0 : 0 ≤ plN c at_ k 0 := Int.emod_nonneg _ (by decide)
  have h1 : plN c at_ k 0 < 26 := Int.emod_lt_of_pos _ (by decide)
  rw [show plN c at_ k 0 = ((plN c at_ k 0).toNat : Int) by omega] at e4
  exact letS_qm _ (by omega) e4
abbrev C__law_names (P : Program) (w : World) (K : PySem.W.Frag) (mg : Str → Option Value) (base : Heap) : Prop := Cal P w K mg base CX0 1 "_law_names" ["_law_mixed", "_law_many"] [] (sp__law_names K)
theorem ok__law_names {f : Addr} {fd : FuncData} (T : Txt K mg) (F : Fun K "_law_names" "_law_names" s__law_names f fd) : FnOk P w K mg base CX0 1 f fd ["_law_mixed", "_law_many"] (sp__law_names K) := by
  refine F.ok sc__law_names (fun vs H Q E h => ?_) (fun cdv A outer s H vs Q E hr h => ?_)
  · obtain ⟨c, rfl, _⟩ := h
    rfl
  · obtain ⟨c, rfl, h0, k⟩ := h
    have hN := sc__law_names.nd
    have hu := hu_le hr
    refine ⟨_, QSs.r (qsC (qSet (i := 2) hN rfl (by first | exact Or.inl rfl | exact Or.inr rfl) qStr)
      (qsC (qSet (i := 3) hN rfl (by first | exact Or.inl rfl | exact Or.inr rfl) (qOp (kAdd K) qInt (qOp op_mod (qV 0) qInt)))
      (qsC (qSet (i := 4) hN rfl (by first | exact Or.inl rfl | exact Or.inr rfl) (qOp op_mod (qOp op_fdiv (qV 0) qInt) (qV 3)))
      (qsC (qSet (i := 5) hN rfl (by first | exact Or.inl rfl | exact Or.inr rfl) (qLst qa0))
      (qsC (qFor PassesOwn.never rfl (qiR1 T.b_range (qa1 (qV 1) qa0)) (qgN (i := 6) hN rfl (by first | exact Or.inl rfl | exact Or.inr rfl))
        (qsC (qSet (i := 7) hN rfl (by first | exact Or.inl rfl | exact Or.inr rfl) qStr)
      (qsC (qFor PassesOwn.never rfl (qiR1 T.b_range (qa1 (qV 3) qa0)) (qgN (i := 8) hN rfl (by first | exact Or.inl rfl | exact Or.inr rfl))
        (qsC (qSet (i := 9) hN rfl (by first | exact Or.inl rfl | exact Or.inr rfl) (qOp (kAdd K) (qOp op_fdiv (qV 0) qInt) (qOp op_mulY (qV 8) (qV 8))))
      (qsC (qIf (qtCmp (kEqW8 K hr) (qV 8) (qV 4) (nomark _)) (qs1 (qSet (i := 9) hN rfl (by first | exact Or.inl rfl | exact Or.inr rfl) (qOp (kAdd K) (qV 9) (qOp op_mulY qInt (qV 6))))) qs0)
      (qs1 (qSet (i := 7) hN rfl (by first | exact Or.inl rfl | exact Or.inr rfl) (qOp (kAdd K) (qV 7) (qIx (kIx K hu) (qV 2) (qOp op_mod (qV 9) qInt) (fun _ _ => rfl))))))))
      (qs1 (qEx (qM PySem.F.plainAttrs_list PySem.F.slot_list_append PySem.F.type_list_append mt_list_append1 K (qV 5) (qa1 (qV 7) qa0)))))))
      (qs1 (qRet (qV 5)))))))), ?_⟩
    repeat walk_at "R"
    have hat0 : 0 ≤ c / 8 % (1 + c % 8) := Int.emod_nonneg _ (by omega)
    have hat1 : c / 8 % (1 + c % 8) < 1 + c % 8 := Int.emod_lt_of_pos _ (by omega)
    generalize hat : c / 8 % (1 + c % 8) = at_ at hat0 hat1 ⊢
    refine ⟨small (by simp), fun lo no => ?_⟩
    obtain ⟨H1, e1, f1, m1, _⟩ := new_at (o := .lst _) no
    rw [e1]
    repeat walk_at "R"
    refine r_rng1v (by omega) (by omega) ?_
    refine for2_b (n := 6) (fun i σ H' => (∃ v1 v2 v3 v4, σ = [some (.int c), some (.int 6), some (.str kSL), some (.int (1 + c % 8)), some (.int at_), some (.ref lo), v1, v2, v3, v4]) ∧ Same H H' ∧ H' lo = some (.lst (((List.range i).map (nameS c at_ (1 + c % 8).toNat)).map V.str)))
      ⟨⟨_, _, _, _, rfl⟩, m1, f1⟩ (fun i σ H' hi _ => by exact hi) ?_ ?_
    · rintro bk i v σ H2' H2 hi ⟨⟨v1, v2, v3, v4, rfl⟩, s2, g2⟩ ⟨rfl, rfl⟩
      repeat walk_at "R"
      refine r_rng1v (by omega) (by omega) ?_
      refine for2_b (n := (1 + c % 8).toNat) (fun j σ H' => (∃ v3 v4, σ = [some (.int c), some (.int 6), some (.str kSL), some (.int (1 + c % 8)), some (.int at_), some (.ref lo), some (.int (0 + (i : Int))), some (.str (strL (nameL c at_ i j))), v3, v4]) ∧ H' = H2)
        ⟨⟨_, _, rfl⟩, rfl⟩ (fun i σ H' hi _ => by exact hi) ?_ ?_
      · rintro bk2 j v σ H3 H4 hj ⟨⟨v3, v4, rfl⟩, rfl⟩ ⟨rfl, rfl⟩
        have hnl := strL_len (nameL c at_ i j)
        rw [nameL_len] at hnl
        repeat walk_at "R"
        refine r_ite (fun hb => ?_) (fun hb => ?_)
        · repeat walk_at "R"
          have e : (c / 64 + (0 + (j : Int)) * (0 + (j : Int)) + 3 * (0 + (i : Int))) % 26 = plN c at_ i j := by unfold plN; rw [if_pos (by omega), Int.zero_add, Int.zero_add]
          rw [e]
          have q0 : 0 ≤ plN c at_ i j := Int.emod_nonneg _ (by decide)
          have q1 : plN c at_ i j < 26 := Int.emod_lt_of_pos _ (by decide)
          refine r_ix_str let_small (let_is (plN c at_ i j) q0 q1) ?_
          refine r_add_str (j := ⟨#[letS (plN c at_ i j)]⟩) (small (by rw [len_sgn]; omega)) ?_
          repeat walk_at "R"
          refine ⟨⟨some (.int (0 + (j : Int))), some (.int (c / 64 + (0 + (j : Int)) * (0 + (j : Int)) + 3 * (0 + (i : Int)))), ?_⟩, rfl⟩
          rw [nameL_succ, ← strL_snoc]; rfl
        · repeat walk_at "R"
          have e : (c / 64 + (0 + (j : Int)) * (0 + (j : Int))) % 26 = plN c at_ i j := by unfold plN; rw [if_neg (by omega), Int.zero_add, Int.add_zero]
          rw [e]
          have q0 : 0 ≤ plN c at_ i j := Int.emod_nonneg _ (by decide)
          have q1 : plN c at_ i j < 26 := Int.emod_lt_of_pos _ (by decide)
          refine r_ix_str let_small (let_is (plN c at_ i j) q0 q1) ?_
          refine r_add_str (j := ⟨#[letS (plN c at_ i j)]⟩) (small (by rw [len_sgn]; omega)) ?_
          repeat walk_at "R"
          refine ⟨⟨some (.int (0 + (j : Int))), some (.int (c / 64 + (0 + (j : Int)) * (0 + (j : Int)))), ?_⟩, rfl⟩
          rw [nameL_succ, ← strL_snoc]; rfl
      · rintro σ H3 ⟨⟨v3, v4, rfl⟩, rfl⟩
        refine ⟨Nat.le_refl _, ?_⟩
        repeat walk_at "R"
        refine ⟨.inl ⟨rfl, _, SqL.of g2⟩, ?_⟩
        repeat walk_at "R"
        refine ⟨lo, _, _, rfl, rfl, g2, small1000 (by rw [List.length_map, List.length_map, List.length_range]; omega), ?_⟩
        refine ⟨⟨_, _, _, _, rfl⟩, sUpd0 s2 no, ?_⟩
        rw [upd_same, List.range_succ, List.map_append, List.map_append]; rfl
    · rintro σ H2 ⟨⟨v1, v2, v3, v4, rfl⟩, s2, g2⟩
      refine ⟨Nat.le_refl _, ?_⟩
      repeat walk_at "R"
      refine k lo H2 _ no s2 g2 ⟨by rw [List.length_map, List.length_range], name_nd hat0 (by omega) (by omega), fun s hs => ?_, fun hs => ?_⟩
      · obtain ⟨i, _, rfl⟩ := List.mem_map.mp hs
        unfold nameS
        rw [strL_len, nameL_len]; omega
      · obtain ⟨i, _, e⟩ := List.mem_map.mp hs
        exact name_qm (by omega) e
def sp__law_piece (K : PySem.W.Frag) : Sp := fun vs H Q _ => ∃ (a b c : Addr) (cs : List Int) (ss ks : List Str) (mo : Int), vs = [.ref a, .ref b, .int mo, .int 3, .ref c] ∧ 0 ≤ mo ∧ mo ≤ 4 ∧ SqL K H a (cs.map V.int) ∧ SqL K H b (ss.map V.str) ∧ SqL K H c (ks.map V.str) ∧ cs.length ≤ 6 ∧ ss.length = 6 ∧ 0 < ks.length ∧ ks.length ≤ 2 ∧ ss.Nodup ∧ (∀ s ∈ ss, s.length ≤ 100) ∧ ("?" : Str) ∉ ss ∧ NewW 6 K H Q
abbrev C__law_piece (P : Program) (w : World) (K : PySem.W.Frag) (mg : Str → Option Value) (base : Heap) : Prop := Cal P w K mg base CX0 2 "_law_piece" ["_law_cells", "_law_names_here", "_law_points_most", "_law_ties_most", "_law_kinds"] [] (sp__law_piece K)
theorem ok__law_piece {f : Addr} {fd : FuncData} (T : Txt K mg) (c__law_mix : C__law_mix P w K mg base) (F : Fun K "_law_piece" "_law_piece" s__law_piece f fd) : FnOk P w K mg base CX0 2 f fd ["_law_cells", "_law_names_here", "_law_points_most", "_law_ties_most", "_law_kinds"] (sp__law_piece K) := by
  refine F.ok sc__law_piece (fun vs H Q E h => ?_) (fun cdv A outer s H vs Q E hr h => ?_)
  · obtain ⟨a, b, c, cs, ss, ks, mo, rfl, _⟩ := h
    rfl
  · obtain ⟨a, b, c, cs, ss, ks, mo, rfl, hmo0, hmo4, hA, hB, hC, hcl, hsl, hk0, hk2, hkl, hs1, hqm, k⟩ := h
    have hN := sc__law_piece.nd
    have hu := hu_le hr
    refine ⟨_, QSs.r (qsC (qSet (i := 5) hN rfl (by first | exact Or.inl rfl | exact Or.inr rfl) qD0)
      (qsC (qSet (i := 6) hN rfl (by first | exact Or.inl rfl | exact Or.inr rfl) qD0)
      (qsC (qFor PassesOwn.never rfl (qiR1 T.b_range (qa1 (qB (kLenP K P w) T.b_len Boot.«len» (qa1 (qV 0) qa0)) qa0)) (qgN (i := 7) hN rfl (by first | exact Or.inl rfl | exact Or.inr rfl))
        (qsC (qSet (i := 8) hN rfl (by first | exact Or.inl rfl | exact Or.inr rfl) (qC c__law_mix (hr.mono (by decide)) pass0 (qa1 (qIx (kIx K hu) (qV 0) (qV 7) (fun _ _ => rfl)) (qa1 (qV 7) qa0))))
      (qsC (qSet (i := 9) hN rfl (by first | exact Or.inl rfl | exact Or.inr rfl) (qB (kSorted K rfl) T.b_sorted Boot.«sorted» (qa1 (qV 5) qa0)))
      (qsC (qSet (i := 10) hN rfl (by first | exact Or.inl rfl | exact Or.inr rfl) (qCmp (kEqW8 K hr) (qB (kLenP K P w) T.b_len Boot.«len» (qa1 (qV 9) qa0)) (qV 2) (nomark _)))
      (qs1 (qIf (qtW (qwAnd (qtCmp op_gt (qB (kLenP K P w) T.b_len Boot.«len» (qa1 (qV 9) qa0)) qInt (nomark _)) (qwAnd (qtCmp op_ltX (qB (kLenP K P w) T.b_len Boot.«len» (qa1 (qV 6) qa0)) (qV 3) (nomark _)) (qwAnd1 (qtW (qwOr (qtTru K (qV 10)) (qwOr1 (qtCmp (kEqW8 K hr) (qOp op_mod (qV 8) qInt) qInt (nomark _))))))))) (qsC (qSet (i := 11) hN rfl (by first | exact Or.inl rfl | exact Or.inr rfl) (qIx (kIx K hu) (qV 9) (qOp op_mod (qOp op_fdiv (qV 8) qInt) (qB (kLenP K P w) T.b_len Boot.«len» (qa1 (qV 9) qa0))) (fun _ _ => rfl)))
      (qsC (qSet (i := 12) hN rfl (by first | exact Or.inl rfl | exact Or.inr rfl) (qIx (kIx K hu) (qV 9) (qOp op_mod (qOp op_fdiv (qV 8) qInt) (qB (kLenP K P w) T.b_len Boot.«len» (qa1 (qV 9) qa0))) (fun _ _ => rfl)))
      (qs1 (qAsg (qTup (qa1 (qIx (kIx K hu) (qV 4) (qOp op_mod (qOp op_fdiv (qV 8) qInt) (qB (kLenP K P w) T.b_len Boot.«len» (qa1 (qV 4) qa0))) (fun _ _ => rfl)) (qa1 (qV 11) (qa1 (qV 12) qa0)))) (qgS (qV 6) (qIx (kIx K hu) (qV 1) (qV 7) (fun _ _ => rfl)) (set_wideP P w hu)))))) (qs1 (qIf (qtNot (qtTru K (qV 10))) (qs1 (qAsg (qIx (kIx K hu) (qV 4) (qOp op_mod (qOp op_fdiv (qV 8) qInt) (qB (kLenP K P w) T.b_len Boot.«len» (qa1 (qV 4) qa0))) (fun _ _ => rfl)) (qgS (qV 5) (qIx (kIx K hu) (qV 1) (qV 7) (fun _ _ => rfl)) (set_wideP P w hu)))) qs0))))))))
      (qs1 (qRet (qTup (qa1 (qV 5) (qa1 (qV 6) qa0)))))))), ?_⟩
    repeat walk_at "R"
    intro p np
    obtain ⟨H1, e1, f1, m1, _⟩ := new_at (o := .dK []) np
    rw [e1]
    repeat walk_at "R"
    intro q nq
    obtain ⟨H2, e2, f2, m2, _⟩ := new_at (o := .dK []) nq
    rw [e2]
    have hpq : p ≠ q := ne_of_none f1 nq
    have nq0 : H q = none := m1.free nq
    have m12 := m1.trans m2
    repeat walk_at "R"
    refine l_len (r_len_lst (m12.seq hA) ?_)
    repeat walk_at "R"
    rw [List.length_map]
    refine r_rng1v (by omega) (by omega) ?_
    refine for2_b (n := cs.length) (fun i σ H' => ∃ (pts : List (Str × Str)) (kvs : List (Key × V)) (ts : List (Str × Tie)) (v1 v2 v3 v4 v5 v6 : Option V), σ = [some (.ref a), some (.ref b), some (.int mo), some (.int 3), some (.ref c), some (.ref p), some (.ref q), v1, v2, v3, v4, v5, v6] ∧ Same H H' ∧ H' p = some (.dK (pKV pts)) ∧ H' q = some (.dK kvs) ∧ TiesIs K H' kvs ts ∧ (pts.map (·.1) ++ ts.map (·.1)).Nodup ∧ (∀ x ∈ pts.map (·.1) ++ ts.map (·.1), x ∈ ss.take i) ∧ (pts.length + ts.length ≤ i ∧ (pts.length : Int) ≤ mo ∧ ts.length ≤ 3) ∧ ∀ x ∈ ts, x.2.2.1 ∈ pts.map (·.1) ∧ x.2.2.2 ∈ pts.map (·.1))
      ⟨[], [], [], _, _, _, _, _, _, rfl, m12, m2 _ _ f1, f2, .nil, List.nodup_nil, (fun _ h => nomatch h), ⟨Nat.le_refl _, hmo0, Nat.zero_le _⟩, fun _ h => nomatch h⟩ (fun i σ H' hi _ => by show i < _; omega) ?_ ?_
    · rintro bk i v σ H3' H3 hi ⟨pts, kvs, ts, v1, v2, v3, v4, v5, v6, rfl, s3, g3, t3, w3, d1, d2, l1, l2⟩ ⟨rfl, rfl⟩
      obtain ⟨nm, hnm, hnm'⟩ : ∃ nm, (ss.map V.str)[i]? = some (.str nm) ∧ ss[i]? = some nm := ⟨ss[i], by rw [List.getElem?_map, List.getElem?_eq_getElem (by omega)]; rfl, List.getElem?_eq_getElem (by omega)⟩
      have hci : (cs.map V.int)[i]? = some (.int cs[i]) := by rw [List.getElem?_map, List.getElem?_eq_getElem hi]; rfl
      have e7 : ss.take (i + 1) = ss.take i ++ [nm] := by rw [List.take_succ, hnm']; rfl
      have nin : nm ∉ ss.take i := fun m => by
        have z : (ss.take (i + 1)).Nodup := hkl.sublist (List.take_sublist _ _)
        rw [e7] at z
        exact (List.nodup_append.mp z).2.2 nm m nm (by simp) rfl
      have fresh : nm ∉ pts.map (·.1) ++ ts.map (·.1) := fun m => nin (d2 nm m)
      have sub1 : ∀ x ∈ pts.map (·.1) ++ ts.map (·.1), x ∈ ss.take (i + 1) := fun x hx => by rw [e7]; exact List.mem_append_left _ (d2 x hx)
      have hwl := w3.length
      repeat walk_at "R"
      refine r_ix_lst (xs := cs.map V.int) (s3.seq hA) (i := 0 + (i : Int)) (by rw [Int.zero_add]; exact atI_nat (j := i) hci) ?_
      repeat walk_at "R"
      refine ⟨cs[i], 0 + (i : Int), rfl, by omega, by omega, fun mx hmx => ?_⟩
      repeat walk_at "R"
      refine r_sorted_dic (ss := pts.map (·.1)) (.inl g3) (by rw [pKV_keys, map_inr]) (by rw [List.length_map]; omega) (fun s1 a1 a2 l1' n1 => ?_)
      obtain ⟨H6, e6, f6, m6, _⟩ := new_at (o := .lst _) n1
      rw [e6]
      have s6 := s3.trans m6
      have g6 := m6 _ _ g3
      have t6 := m6 _ _ t3
      have w6 := w3.mono m6.le
      have ha1l := a1.length_eq
      rw [List.length_map] at ha1l
      repeat walk_at "R"
      refine l_len (r_len_lst (SqL.of f6) ?_)
      rw [List.length_map, ha1l]
      repeat walk_at "R"
      refine l_len (r_len_lst (SqL.of f6) ?_)
      rw [List.length_map, ha1l]
      repeat walk_at "R"
      refine r_ite (fun hz => ?_) (fun hz => ?_)
      · repeat walk_at "R"
        refine l_len (r_len_dic (.inl t6) ?_)
        repeat walk_at "R"
        refine r_ite (fun h3 => ?_) (fun h3 => ?_)
        · repeat walk_at "R"
          refine r_ite (fun h4 => ?_) (fun h4 => ?_)
          · have hpos : 0 < pts.length := by omega
            repeat walk_at "R"
            refine l_len (r_len_lst (SqL.of f6) ?_)
            rw [List.length_map, ha1l]
            repeat walk_at "R"
            obtain ⟨o1, ho1, hm1⟩ := atI_strs (ss := s1) (i := mx / 2 % (pts.length : Int)) (Int.emod_nonneg _ (by omega)) (by rw [ha1l]; exact Int.emod_lt_of_pos _ (by omega))
            refine r_ix_lst (SqL.of f6) ho1 ?_
            repeat walk_at "R"
            refine l_len (r_len_lst (SqL.of f6) ?_)
            rw [List.length_map, ha1l]
            repeat walk_at "R"
            obtain ⟨o2, ho2, hm2⟩ := atI_strs (ss := s1) (i := mx / 14 % (pts.length : Int)) (Int.emod_nonneg _ (by omega)) (by rw [ha1l]; exact Int.emod_lt_of_pos _ (by omega))
            refine r_ix_lst (SqL.of f6) ho2 ?_
            repeat walk_at "R"
            refine l_len (r_len_lst (s6.seq hC) ?_)
            rw [List.length_map]
            repeat walk_at "R"
            obtain ⟨kd, hkd, _⟩ := atI_strs (ss := ks) (i := mx / 98 % (ks.length : Int)) (Int.emod_nonneg _ (by omega)) (Int.emod_lt_of_pos _ (by omega))
            refine r_ix_lst (s6.seq hC) hkd ?_
            repeat walk_at "R"
            refine ⟨small (by simp), fun l9 n9 => ?_⟩
            obtain ⟨H9, e9, f9, m9, _⟩ := new_at (o := .tup _) n9
            rw [e9]
            have s9 := s6.trans m9
            repeat walk_at "R"
            refine r_ix_lst (xs := ss.map V.str) (s9.seq hB) (i := 0 + (i : Int)) (by rw [Int.zero_add]; exact atI_nat (j := i) hnm) ?_
            refine s_set (r_set_dic (k := Sum.inr nm) (m9 _ _ t6) (small (by omega)) ?_)
            have w9 := w6.mono m9.le
            rw [putK_new _ (valV_fresh (by rw [w9.keys, ← map_inr]; exact fun m => fresh (List.mem_append_right _ (inr_mem m))))]
            refine ⟨pts, kvs ++ [(Sum.inr nm, .ref l9)], ts ++ [(nm, (kd, o1, o2))], _, _, _, _, _, _, rfl, sUpd0 s9 nq0, by rw [upd_ne hpq]; exact m9 _ _ g6, upd_same, paired_snoc (Paired.imp' (fun _ _ z => tie_upd (m9 _ _ t6) z) w9) (tie_upd (m9 _ _ t6) ⟨rfl, l9, rfl, SqT.of f9⟩), ?_, ?_, ?_, ?_⟩
            · rw [List.map_append, ← List.append_assoc]
              exact nd_snoc d1 fresh
            · intro x hx
              rw [List.map_append, ← List.append_assoc] at hx
              rcases List.mem_append.mp hx with h' | h'
              · exact sub1 x h'
              · rw [e7, show x = nm by simpa using h']; simp
            · rw [List.length_append, List.length_singleton]; omega
            · intro x hx
              rcases List.mem_append.mp hx with h' | h'
              · exact l2 x h'
              · rw [List.mem_singleton.mp h']; exact ⟨a1.mem_iff.mp hm1, a1.mem_iff.mp hm2⟩
          · repeat walk_at "R"
            refine r_ite (fun h5 => ?_) (fun h5 => ?_)
            · have hpos : 0 < pts.length := by omega
              repeat walk_at "R"
              refine l_len (r_len_lst (SqL.of f6) ?_)
              rw [List.length_map, ha1l]
              repeat walk_at "R"
              obtain ⟨o1, ho1, hm1⟩ := atI_strs (ss := s1) (i := mx / 2 % (pts.length : Int)) (Int.emod_nonneg _ (by omega)) (by rw [ha1l]; exact Int.emod_lt_of_pos _ (by omega))
              refine r_ix_lst (SqL.of f6) ho1 ?_
              repeat walk_at "R"
              refine l_len (r_len_lst (SqL.of f6) ?_)
              rw [List.length_map, ha1l]
              repeat walk_at "R"
              obtain ⟨o2, ho2, hm2⟩ := atI_strs (ss := s1) (i := mx / 14 % (pts.length : Int)) (Int.emod_nonneg _ (by omega)) (by rw [ha1l]; exact Int.emod_lt_of_pos _ (by omega))
              refine r_ix_lst (SqL.of f6) ho2 ?_
              repeat walk_at "R"
              refine l_len (r_len_lst (s6.seq hC) ?_)
              rw [List.length_map]
              repeat walk_at "R"
              obtain ⟨kd, hkd, _⟩ := atI_strs (ss := ks) (i := mx / 98 % (ks.length : Int)) (Int.emod_nonneg _ (by omega)) (Int.emod_lt_of_pos _ (by omega))
              refine r_ix_lst (s6.seq hC) hkd ?_
              repeat walk_at "R"
              refine ⟨small (by simp), fun l9 n9 => ?_⟩
              obtain ⟨H9, e9, f9, m9, _⟩ := new_at (o := .tup _) n9
              rw [e9]
              have s9 := s6.trans m9
              repeat walk_at "R"
              refine r_ix_lst (xs := ss.map V.str) (s9.seq hB) (i := 0 + (i : Int)) (by rw [Int.zero_add]; exact atI_nat (j := i) hnm) ?_
              refine s_set (r_set_dic (k := Sum.inr nm) (m9 _ _ t6) (small (by omega)) ?_)
              have w9 := w6.mono m9.le
              rw [putK_new _ (valV_fresh (by rw [w9.keys, ← map_inr]; exact fun m => fresh (List.mem_append_right _ (inr_mem m))))]
              refine ⟨pts, kvs ++ [(Sum.inr nm, .ref l9)], ts ++ [(nm, (kd, o1, o2))], _, _, _, _, _, _, rfl, sUpd0 s9 nq0, by rw [upd_ne hpq]; exact m9 _ _ g6, upd_same, paired_snoc (Paired.imp' (fun _ _ z => tie_upd (m9 _ _ t6) z) w9) (tie_upd (m9 _ _ t6) ⟨rfl, l9, rfl, SqT.of f9⟩), ?_, ?_, ?_, ?_⟩
              · rw [List.map_append, ← List.append_assoc]
                exact nd_snoc d1 fresh
              · intro x hx
                rw [List.map_append, ← List.append_assoc] at hx
                rcases List.mem_append.mp hx with h' | h'
                · exact sub1 x h'
                · rw [e7, show x = nm by simpa using h']; simp
              · rw [List.length_append, List.length_singleton]; omega
              · intro x hx
                rcases List.mem_append.mp hx with h' | h'
                · exact l2 x h'
                · rw [List.mem_singleton.mp h']; exact ⟨a1.mem_iff.mp hm1, a1.mem_iff.mp hm2⟩
            · have h5' := h5
              repeat walk_at "R"
              refine r_iteN (fun hf => ?_) (fun hf => ?_)
              · have hf1 := hf
                repeat walk_at "R"
                refine l_len (r_len_lst (s6.seq hC) ?_)
                rw [List.length_map]
                repeat walk_at "R"
                obtain ⟨kd, hkd, _⟩ := atI_strs (ss := ks) (i := mx / 2 % (ks.length : Int)) (Int.emod_nonneg _ (by omega)) (Int.emod_lt_of_pos _ (by omega))
                refine r_ix_lst (s6.seq hC) hkd ?_
                repeat walk_at "R"
                refine r_ix_lst (xs := ss.map V.str) (s6.seq hB) (i := 0 + (i : Int)) (by rw [Int.zero_add]; exact atI_nat (j := i) hnm) ?_
                refine s_set (r_set_dic (k := Sum.inr nm) g6 (small (by rw [pKV_len]; omega)) ?_)
                have ep : putK (pKV pts) (Sum.inr nm : Key) (.str kd) = pKV (pts ++ [(nm, kd)]) := by
                  rw [putK_new _ (valV_fresh (by rw [pKV_keys, ← map_inr]; exact fun m => fresh (List.mem_append_left _ (inr_mem m))))]
                  unfold pKV; rw [List.map_append]; rfl
                refine ⟨pts ++ [(nm, kd)], kvs, ts, _, _, _, _, _, _, rfl, sUpd0 s6 np, by rw [upd_same, ep], by rw [upd_ne (Ne.symm hpq)]; exact t6, Paired.imp' (fun _ _ z => tie_upd g6 z) w6, ?_, ?_, ?_, ?_⟩
                · exact nd_mid d1 fresh
                · exact mem_mid sub1 (by rw [e7]; simp)
                · rw [List.length_append, List.length_singleton]; omega
                · intro x hx
                  rw [List.map_append]
                  exact ⟨List.mem_append_left _ (l2 x hx).1, List.mem_append_left _ (l2 x hx).2⟩
              · have hf2 := hf
                repeat walk_at "R"
                exact ⟨pts, kvs, ts, _, _, _, _, _, _, rfl, s6, g6, t6, w6, d1, sub1, by omega, l2⟩
        · have h3' := h3
          repeat walk_at "R"
          refine r_iteN (fun hf => ?_) (fun hf => ?_)
          · have hf1 := hf
            repeat walk_at "R"
            refine l_len (r_len_lst (s6.seq hC) ?_)
            rw [List.length_map]
            repeat walk_at "R"
            obtain ⟨kd, hkd, _⟩ := atI_strs (ss := ks) (i := mx / 2 % (ks.length : Int)) (Int.emod_nonneg _ (by omega)) (Int.emod_lt_of_pos _ (by omega))
            refine r_ix_lst (s6.seq hC) hkd ?_
            repeat walk_at "R"
            refine r_ix_lst (xs := ss.map V.str) (s6.seq hB) (i := 0 + (i : Int)) (by rw [Int.zero_add]; exact atI_nat (j := i) hnm) ?_
            refine s_set (r_set_dic (k := Sum.inr nm) g6 (small (by rw [pKV_len]; omega)) ?_)
            have ep : putK (pKV pts) (Sum.inr nm : Key) (.str kd) = pKV (pts ++ [(nm, kd)]) := by
              rw [putK_new _ (valV_fresh (by rw [pKV_keys, ← map_inr]; exact fun m => fresh (List.mem_append_left _ (inr_mem m))))]
              unfold pKV; rw [List.map_append]; rfl
            refine ⟨pts ++ [(nm, kd)], kvs, ts, _, _, _, _, _, _, rfl, sUpd0 s6 np, by rw [upd_same, ep], by rw [upd_ne (Ne.symm hpq)]; exact t6, Paired.imp' (fun _ _ z => tie_upd g6 z) w6, ?_, ?_, ?_, ?_⟩
            · exact nd_mid d1 fresh
            · exact mem_mid sub1 (by rw [e7]; simp)
            · rw [List.length_append, List.length_singleton]; omega
            · intro x hx
              rw [List.map_append]
              exact ⟨List.mem_append_left _ (l2 x hx).1, List.mem_append_left _ (l2 x hx).2⟩
          · have hf2 := hf
            repeat walk_at "R"
            exact ⟨pts, kvs, ts, _, _, _, _, _, _, rfl, s6, g6, t6, w6, d1, sub1, by omega, l2⟩
      · have hz' := hz
        repeat walk_at "R"
        refine r_iteN (fun hf => ?_) (fun hf => ?_)
        · have hf1 := hf
          repeat walk_at "R"
          refine l_len (r_len_lst (s6.seq hC) ?_)
          rw [List.length_map]
          repeat walk_at "R"
          obtain ⟨kd, hkd, _⟩ := atI_strs (ss := ks) (i := mx / 2 % (ks.length : Int)) (Int.emod_nonneg _ (by omega)) (Int.emod_lt_of_pos _ (by omega))
          refine r_ix_lst (s6.seq hC) hkd ?_
          repeat walk_at "R"
          refine r_ix_lst (xs := ss.map V.str) (s6.seq hB) (i := 0 + (i : Int)) (by rw [Int.zero_add]; exact atI_nat (j := i) hnm) ?_
          refine s_set (r_set_dic (k := Sum.inr nm) g6 (small (by rw [pKV_len]; omega)) ?_)
          have ep : putK (pKV pts) (Sum.inr nm : Key) (.str kd) = pKV (pts ++ [(nm, kd)]) := by
            rw [putK_new _ (valV_fresh (by rw [pKV_keys, ← map_inr]; exact fun m => fresh (List.mem_append_left _ (inr_mem m))))]
            unfold pKV; rw [List.map_append]; rfl
          refine ⟨pts ++ [(nm, kd)], kvs, ts, _, _, _, _, _, _, rfl, sUpd0 s6 np, by rw [upd_same, ep], by rw [upd_ne (Ne.symm hpq)]; exact t6, Paired.imp' (fun _ _ z => tie_upd g6 z) w6, ?_, ?_, ?_, ?_⟩
          · exact nd_mid d1 fresh
          · exact mem_mid sub1 (by rw [e7]; simp)
          · rw [List.length_append, List.length_singleton]; omega
          · intro x hx
            rw [List.map_append]
            exact ⟨List.mem_append_left _ (l2 x hx).1, List.mem_append_left _ (l2 x hx).2⟩
        · have hf2 := hf
          repeat walk_at "R"
          exact ⟨pts, kvs, ts, _, _, _, _, _, _, rfl, s6, g6, t6, w6, d1, sub1, by omega, l2⟩
    · rintro σ H3 ⟨pts, kvs, ts, v1, v2, v3, v4, v5, v6, rfl, s3, g3, t3, w3, d1, d2, l1, l2⟩
      refine ⟨by show cs.length ≤ _; omega, ?_⟩
      repeat walk_at "R"
      refine ⟨small (by simp), fun l9 n9 => ?_⟩
      obtain ⟨H9, e9, f9, m9, _⟩ := new_at (o := .tup _) n9
      rw [e9]
      exact k l9 p q kvs ⟨pts, ts⟩ H9 (s3.trans m9) ⟨⟨SqT.of f9, .inl (m9 _ _ g3), .inl (m9 _ _ t3), w3.mono m9.le⟩, m9 _ _ g3, m9 _ _ t3, hpq, d1, by show (pts.map (·.1) ++ ts.map (·.1)).length ≤ 6; rw [List.length_append, List.length_map, List.length_map]; omega, l2, fun x hx => hs1 x (List.mem_of_mem_take (d2 x hx)), fun hx => hqm (List.mem_of_mem_take (d2 _ hx))⟩ (by show pts.length ≤ 4; omega) (by show ts.length ≤ 4; omega)
def ltP (a b : Str) : Prop := a.cps.toList < b.cps.toList
structure Ordr (W : Web) (s1 s2 : List Str) : Prop where
  p1 : s1.Perm (W.pts.map (·.1))
  p2 : s2.Perm (W.ts.map (·.1))
  o1 : sortedS s1 = true
  o2 : sortedS s2 = true
theorem Ordr.mem {W : Web} {s1 s2 : List Str} (h : Ordr W s1 s2) {n : Str} : n ∈ s1 ++ s2 ↔ n ∈ nmsW W := by
  unfold nmsW
  rw [List.mem_append, List.mem_append, h.p1.mem_iff, h.p2.mem_iff]
theorem Ordr.perm {W : Web} {s1 s2 : List Str} (h : Ordr W s1 s2) : (s1 ++ s2).Perm (nmsW W) := h.p1.append h.p2
theorem Ordr.len {W : Web} {s1 s2 : List Str} (h : Ordr W s1 s2) : (s1 ++ s2).length = (nmsW W).length := h.perm.length_eq
def getS (kvm : List (Key × V)) (n : Str) : Str := match valV kvm (Sum.inr n : Key) with
  | some (.str s) => s
  | _ => ""
theorem getS_of {kvm : List (Key × V)} {n s : Str} (h : valV kvm (Sum.inr n : Key) = some (.str s)) : getS kvm n = s := by unfold getS; rw [h]
def TxtAt (kvm : List (Key × V)) (n : Str) : Prop := ∃ s, valV kvm (Sum.inr n : Key) = some (.str s)
theorem TxtAt.at_ {kvm : List (Key × V)} {n : Str} (h : TxtAt kvm n) : valV kvm (Sum.inr n : Key) = some (.str (getS kvm n)) := by
  obtain ⟨s, hs⟩ := h
  rw [getS_of hs]; exact hs
theorem ixd {H : Hp} {Q : VK} {d : Addr} {kvm : List (Key × V)} {n : Str} (hD : Rd H d (.dK kvm)) (h : TxtAt kvm n) (q : Q (.str (getS kvm n)) H) : rIxX K (.ref d) (.str n) H Q :=
  r_ix_dic (by have z := dget (k := Sum.inr n) hD; rw [h.at_] at z; exact z) q
def sp_things (K : PySem.W.Frag) : Sp := fun vs H Q _ => ∃ (a p q : Addr) (kvs : List (Key × V)) (W : Web), vs = [.ref a] ∧ WebAt K H a p q kvs W ∧ (nmsW W).length ≤ 60 ∧ ∀ (l : Addr) (H' : Hp) (s1 s2 : List Str), H l = none → Same H H' → H' l = some (.lst ((s1 ++ s2).map V.str)) → Ordr W s1 s2 → Q (.ref l) H'
theorem nms_len (W : Web) : (nmsW W).length = W.pts.length + W.ts.length := by unfold nmsW; rw [List.length_append, List.length_map, List.length_map]
abbrev sp__law_all (K : PySem.W.Frag) : Sp := sp_things K
abbrev C__law_all (P : Program) (w : World) (K : PySem.W.Frag) (mg : Str → Option Value) (base : Heap) : Prop := Cal P w K mg base CX0 1 "_law_all" ["_law_web"] [] (sp__law_all K)
theorem ok__law_all {f : Addr} {fd : FuncData} (T : Txt K mg) (F : Fun K "_law_all" "_law_all" s__law_all f fd) : FnOk P w K mg base CX0 1 f fd ["_law_web"] (sp__law_all K) := by
  refine F.ok sc__law_all (fun vs H Q E h => ?_) (fun cdv A outer s H vs Q E hr h => ?_)
  · obtain ⟨a, p, q, kvs, W, rfl, _⟩ := h
    rfl
  · obtain ⟨a, p, q, kvs, W, rfl, hW, h1, k⟩ := h
    rw [nms_len] at h1
    have hN := sc__law_all.nd
    have hu := hu_le hr
    refine ⟨_, QSs.r (qs1 (qRet (qOp (kAdd K) (qB (kSorted K rfl) T.b_sorted Boot.«sorted» (qa1 (qIx (kIx K hu) (qV 0) qInt (fun _ _ => rfl)) qa0)) (qB (kSorted K rfl) T.b_sorted Boot.«sorted» (qa1 (qIx (kIx K hu) (qV 0) qInt (fun _ _ => rfl)) qa0))))), ?_⟩
    repeat walk_at "R"
    refine r_ix_tup hW.tup (atI_nat (j := 0) rfl) ?_
    repeat walk_at "R"
    refine r_sorted_dic (ss := W.pts.map (·.1)) hW.pts (by rw [pKV_keys, map_inr]) (by rw [List.length_map]; omega) (fun s1 a1 a2 l1 n1 => ?_)
    obtain ⟨H1, e1, f1, m1, _⟩ := new_at (o := .lst _) n1
    rw [e1]
    have W1 := hW.mono m1.le
    repeat walk_at "R"
    refine r_ix_tup W1.tup (atI_nat (j := 1) rfl) ?_
    repeat walk_at "R"
    refine r_sorted_dic (ss := W.ts.map (·.1)) W1.ties (by rw [W1.ts.keys, map_inr]) (by rw [List.length_map]; omega) (fun s2 b1 b2 l2 n2 => ?_)
    obtain ⟨H2, e2, f2, m2, _⟩ := new_at (o := .lst _) n2
    rw [e2]
    have g1 := a1.length_eq
    have g2 := b1.length_eq
    rw [List.length_map] at g1 g2
    refine r_cat (m2 _ _ f1) f2 (small (by rw [List.length_map, List.length_map]; omega)) (fun l3 n3 => ?_)
    obtain ⟨H3, e3, f3, m3, _⟩ := new_at (o := .lst _) n3
    rw [e3]
    refine k l3 H3 s1 s2 (m1.free (m2.free n3)) (m1.trans (m2.trans m3)) ?_ ⟨a1, b1, a2, b2⟩
    rw [f3, List.map_append]
theorem val_mem : ∀ {kvs : List (Key × V)} {k : Key} {v : V}, valV kvs k = some v → (k, v) ∈ kvs
  | p :: r, k, v, h => by
    by_cases e : p.1 = k
    · rw [valV_pos e] at h
      rw [← e, ← Option.some.inj h]; exact List.mem_cons_self
    · rw [valV_neg e] at h
      exact List.mem_cons_of_mem _ (val_mem h)
theorem val_pKV {pts : List (Str × Str)} {n : Str} {v : V} (h : valV (pKV pts) (Sum.inr n : Key) = some v) : ∃ k, v = .str k ∧ (n, k) ∈ pts := by
  obtain ⟨x, hx, e⟩ := List.mem_map.mp (val_mem h)
  obtain ⟨x1, x2⟩ := x
  have e1 := (Prod.mk.inj e).1
  have e2 := (Prod.mk.inj e).2
  exact ⟨x2, e2.symm, by rw [← Sum.inr.inj e1]; exact hx⟩
theorem nd_pts {W : Web} (h : (nmsW W).Nodup) : (W.pts.map (·.1)).Nodup := (List.nodup_append.mp h).1
theorem nd_ts {W : Web} (h : (nmsW W).Nodup) : (W.ts.map (·.1)).Nodup := (List.nodup_append.mp h).2.1
theorem put_pKV {pts : List (Str × Str)} {n s : Str} (h : n ∉ pts.map (·.1)) : putK (pKV pts) (Sum.inr n : Key) (.str s) = pKV (pts ++ [(n, s)]) := by
  rw [putK_new _ (valV_fresh (by rw [pKV_keys, ← map_inr]; exact fun m => h (inr_mem m)))]
  unfold pKV; rw [List.map_append]; rfl
theorem getS_pKV {ms : List (Str × Str)} {n m : Str} (nd : (ms.map (·.1)).Nodup) (h : (n, m) ∈ ms) : getS (pKV ms) n = m := getS_of (val_pt nd h)
theorem frz_ne {p b : Addr} {o : Obj} {kvs : List (Key × V)} {H : Hp} (h : b ≠ p) : frzD p o kvs H b = H b := upd_ne h
theorem frz_at {p : Addr} {o : Obj} {kvs : List (Key × V)} {H : Hp} : frzD p o kvs H p = some (.frz o (.dK kvs)) := upd_same
theorem same_frz {p : Addr} {o : Obj} {kvs : List (Key × V)} {H H1 : Hp} (s : Same H H1) : Same (frzD p o kvs H) (frzD p o kvs H1) := fun b u hb => by
  by_cases z : b = p
  · rw [z, frz_at] at hb ⊢; exact hb
  · rw [frz_ne z] at hb ⊢; exact s _ _ hb
theorem tk_fx {α : Type} {p : α → Bool} {s : List α} {i : Nat} {x : α} (h : s[i]? = some x) (hp : p x = true) : (s.take (i + 1)).filter p = (s.take i).filter p ++ [x] := by
  rw [List.take_succ, h, List.filter_append]
  show _ ++ List.filter p [x] = _
  rw [List.filter_cons_of_pos hp]; rfl
theorem tk_nx {α : Type} {p : α → Bool} {s : List α} {i : Nat} {x : α} (h : s[i]? = some x) (hp : p x = false) : (s.take (i + 1)).filter p = (s.take i).filter p := by
  rw [List.take_succ, h, List.filter_append]
  show _ ++ List.filter p [x] = _
  rw [List.filter_cons_of_neg (by rw [hp]; decide)]; simp
theorem r_hide {t u : TS} {nx : L2.St → Hp → Prop} {rt : V → Hp → Prop} {bk ct : L2.St → Hp → Prop} {σ : L2.St} {H : Hp} (h : ∀ nx' : L2.St → Hp → Prop, (∀ σ H, u ⟨nx, rt, bk, ct⟩ σ H → nx' σ H) → t ⟨nx', rt, bk, ct⟩ σ H) : tSeq t u ⟨nx, rt, bk, ct⟩ σ H := h _ fun _ _ z => z
theorem free_new {D d : Addr} {kvs : List (Key × V)} {o : Obj} {H H1 : Hp} (h : H d = some (.dK kvs)) (s : Same (frzD d o kvs H) H1) (hD : H1 D = none) : H D = none := by
  have z := s.free hD
  by_cases e : D = d
  · rw [e, frz_at] at z; cases z
  · rw [frz_ne e] at z; exact z
def sp_names_of (K : PySem.W.Frag) : Sp := fun vs H Q _ => ∃ (d : Addr) (kvs : List (Key × V)) (v : V) (ns : List Str) (f : Key × V → Bool), vs = [.ref d, v] ∧ H d = some (.dK kvs) ∧ kvs.map (·.1) = ns.map Sum.inr ∧ kvs.length ≤ 100 ∧ (∀ kv ∈ kvs, ∀ H', Le H H' → ∀ Q', Q' (.bl (f kv)) H' → rEqW8 K kv.2 v H' Q') ∧ NewS H Q (fun ss => ss.map Sum.inr = (kvs.filter f).map (·.1))
abbrev C_names_of (P : Program) (w : World) (K : PySem.W.Frag) (mg : Str → Option Value) (base : Heap) : Prop := Cal P w K mg base CX0 1 "names_of" ["named", "thing"] [] (sp_names_of K)
theorem ok_names_of {f : Addr} {fd : FuncData} (T : Txt K mg) (F : Fun K "names_of" "names_of" s_names_of f fd) : FnOk P w K mg base CX0 1 f fd ["named", "thing"] (sp_names_of K) := by
  refine F.ok sc_names_of (fun vs H Q E h => ?_) (fun cdv A outer s H vs Q E hr h => ?_)
  · obtain ⟨d, kvs, v, ns, f, rfl, _⟩ := h
    rfl
  · obtain ⟨d, kvs, v, ns, f, rfl, hd, hk, hl, he, k⟩ := h
    have hN := sc_names_of.nd
    have hu := hu_le hr
    refine ⟨_, QSs.r (qs1 (qRet (qComp (own := ["name", "held"]) (js := [1]) (by kernel_rfl) rfl (qiItems (qV 0)) (fun _ _ _ _ => (qgT K rfl (qg1 (qgN (i := 0) (show List.Nodup (["name", "held", "thing"] : List Str) by decide +kernel) rfl (by first | exact Or.inl rfl | exact Or.inr rfl)) (qg1 (qgN (i := 1) (show List.Nodup (["name", "held", "thing"] : List Str) by decide +kernel) rfl (by first | exact Or.inl rfl | exact Or.inr rfl)) qg0)))) (fun _ _ _ _ => (qif1 (qtCmp (kEqW8 K hr) (qV 1) (qV 2) (nomark _)))) (fun _ _ _ _ => (qV 0))))), ?_⟩
    repeat walk_at "R"
    refine r_items_dic hd (fun ndd o1 => ?_)
    refine comp2_n (n := kvs.length) (fun i out H' => Same (frzD d o1 kvs H) H' ∧ ∃ ss : List Str, out = ss.map V.str ∧ ss.map Sum.inr = ((kvs.take i).filter f).map (·.1)) ⟨Same.refl _, [], rfl, rfl⟩ (fun i out H' hi hp => ⟨hp.1 _ _ upd_same, hi⟩) ?_ ?_
    · rintro N i u out H1 H2 hi ⟨s1, ss, rfl, es⟩ ⟨t, kv, hkv, nt, rfl, rfl⟩ hN'
      obtain ⟨H3, e3, f3, m3, _⟩ := new_at (o := .tup _) nt
      rw [e3]
      have hm := List.mem_of_getElem? hkv
      have le3 := (le_frz (o := o1) hd).trans (s1.trans m3).le
      obtain ⟨n, hn⟩ : ∃ n, kv.1 = Sum.inr n := by
        have z : kv.1 ∈ ns.map Sum.inr := by rw [← hk]; exact List.mem_map.mpr ⟨kv, hm, rfl⟩
        obtain ⟨n, _, e⟩ := List.mem_map.mp z
        exact ⟨n, e.symm⟩
      have hsl : ss.length ≤ 100 := by
        have z := congrArg List.length es
        rw [List.length_map, List.length_map] at z
        have y := List.length_filter_le f (kvs.take i)
        rw [List.length_take] at y
        omega
      refine r_gTup (SqT.of f3) rfl ?_
      repeat walk_at "R"
      refine ⟨rfl, ?_⟩
      repeat walk_at "R"
      refine he kv hm H3 le3 _ ?_
      repeat walk_at "R"
      refine r_iteB (fun ht => ?_) (fun hf => ?_)
      · repeat walk_at "R"
        refine ⟨small (by rw [List.length_map]; omega), hN' _ _ ⟨s1.trans m3, ss ++ [n], ?_, ?_⟩⟩
        · rw [List.map_append, hn]; rfl
        · rw [tk_fx hkv ht, List.map_append, List.map_append, es]
          show _ ++ [Sum.inr n] = _ ++ [kv.1]
          rw [hn]
      · exact hN' _ _ ⟨s1.trans m3, ss, rfl, by rw [tk_nx hkv hf]; exact es⟩
    · rintro out H1 ⟨s1, ss, rfl, es⟩
      rw [List.take_of_length_le (Nat.le_refl _)] at es
      have hsl : ss.length ≤ 100 := by
        have z := congrArg List.length es
        rw [List.length_map, List.length_map] at z
        have y := List.length_filter_le f kvs
        omega
      refine ⟨⟨s1 _ _ upd_same, Nat.le_refl _⟩, fun D hD => ⟨small (by rw [List.length_map]; omega), ?_⟩⟩
      have sM := same_new hd s1 hD (u := .lst (ss.map V.str))
      have fM := at_new s1 hD (u := .lst (ss.map V.str))
      exact k D _ ss (free_new hd s1 hD) sM fM es
theorem flat_tie (t : Tie) : (tieV t).all flatV = true := rfl
theorem vals_pKV (ms : List (Str × Str)) : (pKV ms).map (·.2) = (ms.map (·.2)).map V.str := by unfold pKV; rw [List.map_map, List.map_map]; rfl
def gO (ps : List (Str × Str)) (n : Str) : V := (valV (pKV ps) (Sum.inr n : Key)).getD .non
theorem gO_in {ps : List (Str × Str)} {n s : Str} (nd : (ps.map (·.1)).Nodup) (h : (n, s) ∈ ps) : gO ps n = .str s := by
  unfold gO
  rw [val_pt nd h]; rfl
theorem val_out {ps : List (Str × Str)} {n : Str} (h : n ∉ ps.map (·.1)) : valV (pKV ps) (Sum.inr n : Key) = none := valV_fresh (by rw [pKV_keys, ← map_inr]; exact fun m => h (inr_mem m))
theorem gO_out {ps : List (Str × Str)} {n : Str} (h : n ∉ ps.map (·.1)) : gO ps n = .non := by
  unfold gO
  rw [val_out h]; rfl
theorem gO_flat (ps : List (Str × Str)) (n : Str) : flatV (gO ps n) = true := by
  unfold gO
  cases e : valV (pKV ps) (Sum.inr n : Key) with
  | none => rfl
  | some v =>
    obtain ⟨k, rfl, _⟩ := val_pKV e
    rfl
theorem gO_eq {ps : List (Str × Str)} (nd : (ps.map (·.1)).Nodup) (s n : Str) : eqV (.str s) (gO ps n) = true ↔ (n, s) ∈ ps := by
  by_cases h : n ∈ ps.map (·.1)
  · obtain ⟨⟨y1, y2⟩, hy, rfl⟩ := List.mem_map.mp h
    rw [gO_in nd hy]
    show (s == y2) = true ↔ _
    rw [beq_iff_eq]
    exact ⟨fun e => e ▸ hy, fun z => nd_fst_uniq nd z hy⟩
  · rw [gO_out h]
    exact ⟨fun z => (nomatch z), fun z => absurd (List.mem_map.mpr ⟨_, z, rfl⟩) h⟩
def tieO (ps : List (Str × Str)) (x : Tie) : List V := [.str x.1, gO ps x.2.1, gO ps x.2.2]
theorem tieO_flat (ps : List (Str × Str)) (x : Tie) : (tieO ps x).all flatV = true := by
  show (true && (flatV (gO ps x.2.1) && (flatV (gO ps x.2.2) && true))) = true
  rw [gO_flat, gO_flat]; rfl
theorem tieO_eq {ps : List (Str × Str)} (nd : (ps.map (·.1)).Nodup) (z x : Tie) : eqVs (tieV z) (tieO ps x) = true ↔ z.1 = x.1 ∧ (x.2.1, z.2.1) ∈ ps ∧ (x.2.2, z.2.2) ∈ ps := by
  show ((z.1 == x.1) && (eqV (.str z.2.1) (gO ps x.2.1) && (eqV (.str z.2.2) (gO ps x.2.2) && true))) = true ↔ _
  rw [Bool.and_true, Bool.and_eq_true, Bool.and_eq_true, gO_eq nd, gO_eq nd, beq_iff_eq]
def WP (P R : Web) (ps : List (Str × Str)) (x : Str × Str) : Prop := (∃ kd, (x.1, kd) ∈ P.pts ∧ (x.2, kd) ∈ R.pts) ∨ ∃ (t : Tie) (s e : Str), (x.1, t) ∈ P.ts ∧ (t.2.1, s) ∈ ps ∧ (t.2.2, e) ∈ ps ∧ (x.2, (t.1, s, e)) ∈ R.ts
theorem WP.mono {P R : Web} {ps qs : List (Str × Str)} {x : Str × Str} (h : WP P R ps x) (s : ∀ y ∈ ps, y ∈ qs) : WP P R qs x := h.imp id fun ⟨t, a, e, h1, h2, h3, h4⟩ => ⟨t, a, e, h1, s _ h2, s _ h3, h4⟩
theorem mem_nms {W : Web} {n : Str} : n ∈ nmsW W ↔ (∃ k, (n, k) ∈ W.pts) ∨ ∃ t, (n, t) ∈ W.ts := by
  unfold nmsW
  rw [List.mem_append]
  constructor
  · rintro (h | h)
    · obtain ⟨x, hx, rfl⟩ := List.mem_map.mp h
      exact .inl ⟨x.2, hx⟩
    · obtain ⟨x, hx, rfl⟩ := List.mem_map.mp h
      exact .inr ⟨x.2, hx⟩
  · rintro (⟨k, h⟩ | ⟨t, h⟩)
    · exact .inl (List.mem_map.mpr ⟨_, h, rfl⟩)
    · exact .inr (List.mem_map.mpr ⟨_, h, rfl⟩)
theorem nd_disj {W : Web} (nd : (nmsW W).Nodup) {n k : Str} {t : Tie} (h : (n, k) ∈ W.pts) (h' : (n, t) ∈ W.ts) : False := (List.nodup_append.mp nd).2.2 n (List.mem_map.mpr ⟨_, h, rfl⟩) n (List.mem_map.mpr ⟨_, h', rfl⟩) rfl
section
variable {P0 R : Web} {ps : List (Str × Str)} {n t : Str}
theorem WP_pt (nd : (nmsW P0).Nodup) {k : Str} (hk : (n, k) ∈ P0.pts) : WP P0 R ps (n, t) ↔ (t, k) ∈ R.pts := by
  constructor
  · rintro (⟨kd, h1, h2⟩ | ⟨y, s, e, h1, _⟩)
    · rw [nd_fst_uniq (nd_pts nd) hk h1]; exact h2
    · exact (nd_disj nd hk h1).elim
  · exact fun h => .inl ⟨k, hk, h⟩
theorem WP_ti (nd : (nmsW P0).Nodup) {y : Tie} (hy : (n, y) ∈ P0.ts) : WP P0 R ps (n, t) ↔ ∃ s e, (y.2.1, s) ∈ ps ∧ (y.2.2, e) ∈ ps ∧ (t, (y.1, s, e)) ∈ R.ts := by
  constructor
  · rintro (⟨kd, h1, h2⟩ | ⟨y', s, e, h1, h2, h3, h4⟩)
    · exact (nd_disj nd h1 hy).elim
    · have z : y' = y := nd_fst_uniq (nd_ts nd) h1 hy
      subst z
      exact ⟨s, e, h2, h3, h4⟩
  · rintro ⟨s, e, h2, h3, h4⟩
    exact .inr ⟨y, s, e, hy, h2, h3, h4⟩
theorem WP.inP (h : WP P0 R ps (n, t)) : n ∈ nmsW P0 := by
  rcases h with ⟨kd, h1, h2⟩ | ⟨y, s, e, h1, _⟩
  · exact mem_nms.mpr (.inl ⟨_, h1⟩)
  · exact mem_nms.mpr (.inr ⟨_, h1⟩)
theorem WP.inR (h : WP P0 R ps (n, t)) : t ∈ nmsW R := by
  rcases h with ⟨kd, h1, h2⟩ | ⟨y, s, e, _, _, _, h1⟩
  · exact mem_nms.mpr (.inl ⟨_, h2⟩)
  · exact mem_nms.mpr (.inr ⟨_, h1⟩)
theorem eq_pt {H : Hp} {Q : VK} {k : Str} (ndP : (nmsW P0).Nodup) (ndR : (nmsW R).Nodup) (hk : (n, k) ∈ P0.pts) (q : ∀ b, (b = true ↔ WP P0 R ps (n, t)) → Q (.bl b) H) : rEqW8 K ((valV (pKV R.pts) (Sum.inr t : Key)).getD .non) (.str k) H Q := by
  cases e : valV (pKV R.pts) (Sum.inr t : Key) with
  | none =>
    refine w_eq (.inl ⟨rfl, ?_⟩)
    rw [show decide ((none : Option V).getD V.non = V.str k) = false by simp]
    refine q false ⟨fun z => (nomatch z), fun z => ?_⟩
    rw [val_pt (nd_pts ndR) ((WP_pt ndP hk).mp z)] at e
    cases e
  | some v =>
    obtain ⟨k', rfl, hk'⟩ := val_pKV e
    refine w_eq_str (q _ ?_)
    rw [WP_pt ndP hk, decide_eq_true_iff]
    exact ⟨fun z => z ▸ hk', fun z => nd_fst_uniq (nd_pts ndR) hk' z⟩
theorem eq_ti {H : Hp} {Q : VK} {y : Tie} {kvs' : List (Key × V)} {l : Addr} (ndP : (nmsW P0).Nodup) (ndR : (nmsW R).Nodup) (nk : (ps.map (·.1)).Nodup) (hR : TiesIs K H kvs' R.ts) (hy : (n, y) ∈ P0.ts) (hl : SqT K H l (tieO ps y)) (q : ∀ b, (b = true ↔ WP P0 R ps (n, t)) → Q (.bl b) H) : rEqW8 K ((valV kvs' (Sum.inr t : Key)).getD .non) (.ref l) H Q := by
  by_cases ht : t ∈ R.ts.map (·.1)
  · obtain ⟨bb, z, h1, h2, h3⟩ := TiesIs.val (ts := R.ts) hR ht
    rw [h1]
    refine w_eq (q_eq_tup h3 hl (flat_tie _) (tieO_flat _ _) (q _ ?_))
    rw [tieO_eq nk, WP_ti ndP hy]
    constructor
    · rintro ⟨e1, e2, e3⟩
      refine ⟨_, _, e2, e3, ?_⟩
      rw [← e1]; exact h2
    · rintro ⟨s, e, e2, e3, e4⟩
      have z' := nd_fst_uniq (nd_ts ndR) h2 e4
      rw [z']
      exact ⟨rfl, e2, e3⟩
  · have e : valV kvs' (Sum.inr t : Key) = none := by
      cases e : valV kvs' (Sum.inr t : Key) with
      | none => rfl
      | some v =>
        have z := val_in_ts (n := t) hR
        rw [e, decide_eq_false ht] at z
        cases z
    rw [e]
    refine w_eq (.inr (.inr (.inl (.inr ⟨l, _, rfl, rfl, hl, q false ⟨fun z => (nomatch z), fun z => ?_⟩⟩))))
    obtain ⟨s, e', _, _, h4⟩ := (WP_ti ndP hy).mp z
    exact absurd (List.mem_map.mpr ⟨_, h4, rfl⟩) ht
end
def sp_tie_paired (K : PySem.W.Frag) : Sp := fun vs H Q _ => ∃ (t d : Addr) (x : Tie) (ps : List (Str × Str)), vs = [.ref t, .ref d] ∧ SqT K H t (tieV x) ∧ Rd H d (.dK (pKV ps)) ∧ ∀ (l : Addr) (H' : Hp), H l = none → Same H H' → H' l = some (.tup (tieO ps x)) → Q (.ref l) H'
abbrev C_tie_paired (P : Program) (w : World) (K : PySem.W.Frag) (mg : Str → Option Value) (base : Heap) : Prop := Cal P w K mg base CX0 1 "tie_paired" ["tie", "paired"] [] (sp_tie_paired K)
theorem ok_tie_paired {f : Addr} {fd : FuncData} (T : Txt K mg) (F : Fun K "tie_paired" "tie_paired" s_tie_paired f fd) : FnOk P w K mg base CX0 1 f fd ["tie", "paired"] (sp_tie_paired K) := by
  refine F.ok sc_tie_paired (fun vs H Q E h => ?_) (fun cdv A outer s H vs Q E hr h => ?_)
  · obtain ⟨t, d, x, ps, rfl, _⟩ := h
    rfl
  · obtain ⟨t, d, ⟨x1, x2, x3⟩, ps, rfl, hT, hD, k⟩ := h
    have hN := sc_tie_paired.nd
    have hu := hu_le hr
    refine ⟨_, QSs.r (qs1 (qRet (qTup (qa1 (qIx (kIx K hu) (qV 0) qInt (fun _ _ => rfl)) (qa1 (qGet1 hu (qV 1) (qIx (kIx K hu) (qV 0) qInt (fun _ _ => rfl))) (qa1 (qGet1 hu (qV 1) (qIx (kIx K hu) (qV 0) qInt (fun _ _ => rfl))) qa0)))))), ?_⟩
    repeat walk_at "R"
    refine r_ix_tup hT (atI_nat (j := 0) rfl) ?_
    repeat walk_at "R"
    refine ⟨d, rfl, .inl ⟨_, hD⟩, ?_⟩
    repeat walk_at "R"
    refine r_ix_tup hT (atI_nat (j := 1) rfl) ?_
    refine ⟨_, dget (k := Sum.inr x2) hD, ?_⟩
    repeat walk_at "R"
    refine ⟨d, rfl, .inl ⟨_, hD⟩, ?_⟩
    repeat walk_at "R"
    refine r_ix_tup hT (atI_nat (j := 2) rfl) ?_
    refine ⟨_, dget (k := Sum.inr x3) hD, ?_⟩
    repeat walk_at "R"
    refine ⟨small (by simp), fun l9 n9 => ?_⟩
    obtain ⟨H9, e9, f9, m9, _⟩ := new_at (o := .tup (tieO ps (x1, x2, x3))) n9
    change Q _ (upd H l9 (.tup (tieO ps (x1, x2, x3))))
    rw [e9]
    exact k l9 H9 n9 m9 f9
def sp__law_fits (K : PySem.W.Frag) : Sp := fun vs H Q _ => ∃ (a p q a' p' q' d : Addr) (kvs kvs' : List (Key × V)) (P R : Web) (ps : List (Str × Str)) (x : Str × Str), vs = [.ref a, .ref a', .ref d, .str x.1] ∧ WebAt K H a p q kvs P ∧ (nmsW P).Nodup ∧ WebAt K H a' p' q' kvs' R ∧ (nmsW R).Nodup ∧ Rd H d (.dK (pKV ps)) ∧ (ps.map (·.1)).Nodup ∧ x ∈ ps ∧ x.1 ∈ nmsW P ∧ ∀ H' b, Same H H' → (b = true ↔ WP P R ps x) → Q (.bl b) H'
abbrev C__law_fits (P : Program) (w : World) (K : PySem.W.Frag) (mg : Str → Option Value) (base : Heap) : Prop := Cal P w K mg base CX0 1 "_law_fits" ["_law_piece_here", "_law_other", "_law_there", "_law_name"] [] (sp__law_fits K)
theorem ok__law_fits {f : Addr} {fd : FuncData} (T : Txt K mg) (F : Fun K "_law_fits" "_law_fits" s__law_fits f fd) : FnOk P w K mg base CX0 1 f fd ["_law_piece_here", "_law_other", "_law_there", "_law_name"] (sp__law_fits K) := by
  refine F.ok sc__law_fits (fun vs H Q E h => ?_) (fun cdv A outer s H vs Q E hr h => ?_)
  · obtain ⟨a, p, q, a', p', q', d, kvs, kvs', P0, R, ps, x, rfl, _⟩ := h
    rfl
  · obtain ⟨a, p, q, a', p', q', d, kvs, kvs', P0, R, ps, ⟨n, t⟩, rfl, hP, ndP, hR, ndR, hd, nk, hx, hin, k⟩ := h
    have tx : TxtAt (pKV ps) n := ⟨t, val_pt nk hx⟩
    have gx : getS (pKV ps) n = t := getS_pKV nk hx
    have hN := sc__law_fits.nd
    have hu := hu_le hr
    refine ⟨_, QSs.r (qsC (qSet (i := 4) hN rfl (by first | exact Or.inl rfl | exact Or.inr rfl) (qIx (kIx K hu) (qV 2) (qV 3) (fun _ _ => rfl)))
      (qsC (qIf (qtCmp (kIn K hu) (qV 3) (qIx (kIx K hu) (qV 0) qInt (fun _ _ => rfl)) (by rfl)) (qs1 (qRet (qCmp (kEqW8 K hr) (qGet1 hu (qIx (kIx K hu) (qV 1) qInt (fun _ _ => rfl)) (qV 4)) (qIx (kIx K hu) (qIx (kIx K hu) (qV 0) qInt (fun _ _ => rfl)) (qV 3) (fun _ _ => rfl)) (nomark _)))) qs0)
      (qsC (qAsg (qIx (kIx K hu) (qIx (kIx K hu) (qV 0) qInt (fun _ _ => rfl)) (qV 3) (fun _ _ => rfl)) (qgT K rfl (qg1 (qgN (i := 5) hN rfl (by first | exact Or.inl rfl | exact Or.inr rfl)) (qg1 (qgN (i := 6) hN rfl (by first | exact Or.inl rfl | exact Or.inr rfl)) (qg1 (qgN (i := 7) hN rfl (by first | exact Or.inl rfl | exact Or.inr rfl)) qg0)))))
      (qs1 (qRet (qCmp (kEqW8 K hr) (qGet1 hu (qIx (kIx K hu) (qV 1) qInt (fun _ _ => rfl)) (qV 4)) (qTup (qa1 (qV 5) (qa1 (qGet1 hu (qV 2) (qV 6)) (qa1 (qGet1 hu (qV 2) (qV 7)) qa0)))) (nomark _))))))), ?_⟩
    repeat walk_at "R"
    refine ixd hd tx ?_
    rw [gx]
    repeat walk_at "R"
    refine r_ix_tup hP.tup (atI_nat (j := 0) rfl) ?_
    refine r_in_dic (dget (k := Sum.inr n) hP.pts) ?_
    rw [val_in_pts]
    repeat walk_at "R"
    refine r_ite (fun b1 => ?_) (fun b1 => ?_)
    · obtain ⟨⟨y1, y2⟩, hy, ey⟩ := List.mem_map.mp b1
      have ey' : y1 = n := ey
      subst ey'
      repeat walk_at "R"
      refine r_ix_tup hR.tup (atI_nat (j := 0) rfl) ?_
      refine ⟨p', rfl, .inl ⟨_, hR.pts⟩, ?_⟩
      repeat walk_at "R"
      refine ⟨_, dget (k := Sum.inr t) hR.pts, ?_⟩
      repeat walk_at "R"
      refine r_ix_tup hP.tup (atI_nat (j := 0) rfl) ?_
      repeat walk_at "R"
      refine r_ix_dic (v := .str y2) (by have z := dget (k := Sum.inr y1) hP.pts; rw [val_pt (nd_pts ndP) hy] at z; exact z) ?_
      exact eq_pt ndP ndR hy fun b hb => k H b (Same.refl H) hb
    · have ht : n ∈ P0.ts.map (·.1) := (List.mem_append.mp hin).resolve_left b1
      obtain ⟨aa, ⟨y1, y2, y3⟩, g1, g2, g3⟩ := TiesIs.val (ts := P0.ts) hP.ts ht
      repeat walk_at "R"
      refine r_ix_tup hP.tup (atI_nat (j := 1) rfl) ?_
      repeat walk_at "R"
      refine r_ix_dic (v := .ref aa) (by have z := dget (k := Sum.inr n) hP.ties; rw [g1] at z; exact z) ?_
      refine r_gTup (show SqT K H aa [.str y1, .str y2, .str y3] from g3) rfl ?_
      repeat walk_at "R"
      refine r_ix_tup hR.tup (atI_nat (j := 1) rfl) ?_
      refine ⟨q', rfl, .inl ⟨_, hR.ties⟩, ?_⟩
      repeat walk_at "R"
      refine ⟨_, dget (k := Sum.inr t) hR.ties, ?_⟩
      repeat walk_at "R"
      refine ⟨d, rfl, .inl ⟨_, hd⟩, ?_⟩
      repeat walk_at "R"
      refine ⟨_, dget (k := Sum.inr y2) hd, ?_⟩
      repeat walk_at "R"
      refine ⟨d, rfl, .inl ⟨_, hd⟩, ?_⟩
      repeat walk_at "R"
      refine ⟨_, dget (k := Sum.inr y3) hd, ?_⟩
      repeat walk_at "R"
      refine ⟨small (by simp), fun l9 n9 => ?_⟩
      obtain ⟨H9, e9, f9, m9, _⟩ := new_at (o := .tup (tieO ps (y1, y2, y3))) n9
      change rEqW8 K _ _ (upd H l9 (.tup (tieO ps (y1, y2, y3)))) _
      rw [e9]
      exact eq_ti ndP ndR nk (hR.mono m9.le).ts g2 (SqT.of f9) fun b hb => k H9 b m9 hb
def PP (P R : Web) : List (Str × List Str) := P.pts.map fun x => (x.1, (R.pts.filter fun y => decide (y.2 = x.2)).map (·.1))
def tpB (ps : List (Str × Str)) (x y : Tie) : Bool := eqVs (tieV y) (tieO ps x)
def TP (P R : Web) (ps : List (Str × Str)) : List (Str × List Str) := P.ts.map fun x => (x.1, (R.ts.filter fun y => tpB ps x.2 y.2).map (·.1))
def PtAt (H : Hp) (kvs : List (Key × V)) (pa : List (Str × List Str)) : Prop := Paired (fun kv x => kv.1 = Sum.inr x.1 ∧ ∃ l, kv.2 = V.ref l ∧ H l = some (.lst (x.2.map V.str))) kvs pa
theorem PtAt.same {H H' : Hp} {kvs : List (Key × V)} {pa : List (Str × List Str)} (h : PtAt H kvs pa) (s : Same H H') : PtAt H' kvs pa := Paired.imp' (fun _ _ z => ⟨z.1, let ⟨l, e, f⟩ := z.2; ⟨l, e, s _ _ f⟩⟩) h
theorem PtAt.keys {H : Hp} : ∀ {kvs : List (Key × V)} {pa : List (Str × List Str)}, PtAt H kvs pa → kvs.map (·.1) = pa.map fun x => Sum.inr x.1
  | _, _, .nil => rfl
  | _, _, .cons h t => by rw [List.map_cons, List.map_cons, PtAt.keys t, h.1]
def sp_point_partners (K : PySem.W.Frag) : Sp := fun vs H Q _ => ∃ (a p q a' p' q' : Addr) (kvs kvs' : List (Key × V)) (P R : Web), vs = [.ref a, .ref a'] ∧ WebIs 6 K H a p q kvs P ∧ WebIs 6 K H a' p' q' kvs' R ∧ p ≠ p' ∧ ∀ (d : Addr) (kv : List (Key × V)) (H' : Hp), H d = none → Same H H' → H' d = some (.dK kv) → PtAt H' kv (PP P R) → Q (.ref d) H'
def sp_tie_partners (K : PySem.W.Frag) : Sp := fun vs H Q _ => ∃ (a p q a' p' q' e : Addr) (kvs kvs' : List (Key × V)) (P R : Web) (ps : List (Str × Str)), vs = [.ref a, .ref a', .ref e] ∧ WebIs 6 K H a p q kvs P ∧ WebIs 6 K H a' p' q' kvs' R ∧ q ≠ q' ∧ H e = some (.dK (pKV ps)) ∧ e ≠ q ∧ ∀ (d : Addr) (kv : List (Key × V)) (H' : Hp), H d = none → Same H H' → H' d = some (.dK kv) → PtAt H' kv (TP P R ps) → Q (.ref d) H'
theorem inr_map_inj {a b : List Str} (h : a.map (Sum.inr : Str → Key) = b.map Sum.inr) : a = b := by
  induction a generalizing b with
  | nil => cases b with | nil => rfl | cons _ _ => cases h
  | cons x a ih =>
    cases b with
    | nil => cases h
    | cons y b =>
      have h' := List.cons.inj h
      rw [Sum.inr.inj h'.1, ih h'.2]
theorem ptAt_snoc {H : Hp} {kvs : List (Key × V)} {pa : List (Str × List Str)} {n : Str} {l : Addr} {ss : List Str} (h : PtAt H kvs pa) (f : H l = some (.lst (ss.map V.str))) : PtAt H (kvs ++ [(Sum.inr n, V.ref l)]) (pa ++ [(n, ss)]) := paired_snoc h ⟨rfl, l, rfl, f⟩
set_option maxHeartbeats 4000000 in
abbrev C_point_partners (P : Program) (w : World) (K : PySem.W.Frag) (mg : Str → Option Value) (base : Heap) : Prop := Cal P w K mg base CX0 2 "point_partners" ["piece", "other"] [] (sp_point_partners K)
theorem ok_point_partners {f : Addr} {fd : FuncData} (T : Txt K mg) (c_names_of : C_names_of P w K mg base) (F : Fun K "point_partners" "point_partners" s_point_partners f fd) : FnOk P w K mg base CX0 2 f fd ["piece", "other"] (sp_point_partners K) := by
  refine F.ok sc_point_partners (fun vs H Q E h => ?_) (fun cdv A outer s H vs Q E hr h => ?_)
  · obtain ⟨a, p, q, a', p', q', kvs, kvs', P, R, rfl, _⟩ := h
    rfl
  · obtain ⟨a, p, q, a', p', q', kvs, kvs', P0, R0, rfl, hP, hR, hne, k⟩ := h
    have lP := hP.len
    rw [nms_len] at lP
    have lR := hR.len
    rw [nms_len] at lR
    have eP := pKV_len P0.pts
    have eR := pKV_len R0.pts
    have hN := sc_point_partners.nd
    have hu := hu_le hr
    refine ⟨_, QSs.r (qs1 (qRet (qBT (kDict K rfl) T.b_dict Boot.«dict» (qa1 (qComp (own := ["name", "kind"]) (js := [1]) (by kernel_rfl) rfl (qiItems (qIx (kIx K hu) (qV 0) qInt (fun _ _ => rfl))) (fun _ _ _ _ => (qgT K rfl (qg1 (qgN (i := 0) (show List.Nodup (["name", "kind", "other"] : List Str) by decide +kernel) rfl (by first | exact Or.inl rfl | exact Or.inr rfl)) (qg1 (qgN (i := 1) (show List.Nodup (["name", "kind", "other"] : List Str) by decide +kernel) rfl (by first | exact Or.inl rfl | exact Or.inr rfl)) qg0)))) (fun _ _ _ _ => qif0) (fun _ _ _ _ => (qTup (qa1 (qV 0) (qa1 (qC c_names_of (hr.mono (by decide)) pass0 (qa1 (qIx (kIx K hu) (qV 2) qInt (fun _ _ => rfl)) (qa1 (qV 1) qa0))) qa0))))) qa0)))), ?_⟩
    repeat walk_at "R"
    refine r_ix_tup hP.at_.tup (atI_nat (j := 0) rfl) ?_
    refine r_items_dic hP.hp (fun ndp o1 => ?_)
    refine comp2_n (n := (pKV P0.pts).length) (fun i out H' => Same (frzD p o1 (pKV P0.pts) H) H' ∧ ∃ kv : List (Key × V), Paired (PrV K H') out kv ∧ PtAt H' kv ((PP P0 R0).take i)) ⟨Same.refl _, [], .nil, .nil⟩ (fun i out H' hi hp => ⟨hp.1 _ _ upd_same, hi⟩) ?_ ?_
    · rintro N i v out H1 H2 hi ⟨s1, kv, pr, pt⟩ ⟨t, kv0, hkv, nt, rfl, rfl⟩ hN'
      obtain ⟨x, hx, rfl⟩ := pKV_get hkv
      obtain ⟨H3, e3, f3, m3, _⟩ := new_at (o := .tup _) nt
      rw [e3]
      have s3 := s1.trans m3
      have le3 := (le_frz (o := o1) hP.hp).trans s3.le
      have g3 : H3 p' = some (.dK (pKV R0.pts)) := s3 _ _ (by rw [frz_ne hne.symm]; exact hR.hp)
      have R3 := hR.at_.mono le3
      refine r_gTup (SqT.of f3) rfl ?_
      repeat walk_at "R"
      refine ⟨rfl, ?_⟩
      repeat walk_at "R"
      refine r_ix_tup R3.tup (atI_nat (j := 0) rfl) ?_
      repeat walk_at "R"
      refine ⟨p', pKV R0.pts, .str x.2, R0.pts.map (·.1), fun kv => eqV kv.2 (.str x.2), rfl, g3, by rw [pKV_keys, map_inr], by omega, fun kv hkv H' _ Q' q' => ?_, fun l H4 ss nl m4 f4 es => ?_⟩
      · obtain ⟨y, hy, rfl⟩ := List.mem_map.mp hkv
        refine w_eq_str ?_
        rw [show decide (y.2 = x.2) = eqV (.str y.2) (.str x.2) by show _ = (y.2 == x.2); rw [Bool.eq_iff_iff, beq_iff_eq, decide_eq_true_eq]]
        exact q'
      have es' : ss = (R0.pts.filter fun y => decide (y.2 = x.2)).map (·.1) := by
        refine inr_map_inj (es.trans ?_)
        unfold pKV
        rw [List.filter_map, List.map_map, List.map_map]
        congr 1
      repeat walk_at "R"
      refine ⟨small (by simp), fun t5 n5 => ?_⟩
      obtain ⟨H5, e5, f5, m5, _⟩ := new_at (o := .tup _) n5
      rw [e5]
      have m35 := m3.trans (m4.trans m5)
      have ol := Paired.length pr
      have ol2 := Paired.length pt
      rw [List.length_take] at ol2
      refine ⟨small (by omega), hN' _ _ ⟨s1.trans m35, kv ++ [(Sum.inr x.1, .ref l)], paired_snoc (Paired.imp' (fun _ _ z => PrV.mono m35.le z) pr) ⟨t5, rfl, SqT.of f5⟩, ?_⟩⟩
      have e7 : (PP P0 R0).take (i + 1) = (PP P0 R0).take i ++ [(x.1, ss)] := by
        rw [List.take_succ, show (PP P0 R0)[i]? = some (x.1, ss) by unfold PP; rw [List.getElem?_map, hx, es']; rfl]; rfl
      rw [e7]
      exact ptAt_snoc (pt.same m35) (m5 _ _ f4)
    · rintro out H1 ⟨s1, kv, pr, pt⟩
      have ol := Paired.length pr
      have ol2 := Paired.length pt
      have lp : (PP P0 R0).length = P0.pts.length := List.length_map _
      rw [List.length_take] at ol2
      rw [List.take_of_length_le (by omega)] at pt
      refine ⟨⟨s1 _ _ upd_same, Nat.le_refl _⟩, fun D hD => ⟨small (by omega), ?_⟩⟩
      have sM := same_new hP.hp s1 hD (u := .lst out)
      have fM := at_new s1 hD (u := .lst out)
      have prM := Paired.imp' (fun _ _ z => PrV.mono (le_new (d := p) (u := .lst out) hD) z) pr
      have ptM : PtAt (thaw p (upd H1 D (.lst out))) kv (PP P0 R0) := Paired.imp' (fun _ _ z => ⟨z.1, let ⟨l, e, f⟩ := z.2; ⟨l, e, by
        have n1 : l ≠ p := fun y => by rw [y, s1 _ _ upd_same] at f; cases f
        rw [thaw_ne n1, upd_ne (ne_of_none f hD)]; exact f⟩⟩) pt
      generalize thaw p (upd H1 D (.lst out)) = HM at sM fM prM ptM ⊢
      repeat walk_at "R"
      refine d_dict_lst (SqL.of fM) prM (small (by omega)) (fun pp npp => ?_)
      have eK : putsK kv = kv := putsK_nd (by
        rw [ptM.keys, show ((PP P0 R0).map fun x => (Sum.inr x.1 : Key)) = (pKV P0.pts).map (·.1) by unfold PP; rw [List.map_map, pKV_keys]; rfl]
        exact ndp)
      rw [eK]
      obtain ⟨H2, e2, f2, m2, _⟩ := new_at (o := .dK kv) npp
      rw [e2]
      exact k pp kv H2 (sM.free npp) (sM.trans m2) f2 (ptM.same m2)
set_option maxHeartbeats 4000000 in
abbrev C_tie_partners (P : Program) (w : World) (K : PySem.W.Frag) (mg : Str → Option Value) (base : Heap) : Prop := Cal P w K mg base CX0 2 "tie_partners" ["piece", "other", "paired"] [] (sp_tie_partners K)
theorem ok_tie_partners {f : Addr} {fd : FuncData} (T : Txt K mg) (c_names_of : C_names_of P w K mg base) (c_tie_paired : C_tie_paired P w K mg base) (F : Fun K "tie_partners" "tie_partners" s_tie_partners f fd) : FnOk P w K mg base CX0 2 f fd ["piece", "other", "paired"] (sp_tie_partners K) := by
  refine F.ok sc_tie_partners (fun vs H Q E h => ?_) (fun cdv A outer s H vs Q E hr h => ?_)
  · obtain ⟨a, p, q, a', p', q', e, kvs, kvs', P, R, ps, rfl, _⟩ := h
    rfl
  · obtain ⟨a, p, q, a', p', q', e, kvs, kvs', P0, R0, ps, rfl, hP, hR, hne, he, heq, k⟩ := h
    have lP := hP.len
    rw [nms_len] at lP
    have lR := hR.len
    rw [nms_len] at lR
    have eP := hP.at_.ts.length
    have eR := hR.at_.ts.length
    have hN := sc_tie_partners.nd
    have hu := hu_le hr
    refine ⟨_, QSs.r (qs1 (qRet (qBT (kDict K rfl) T.b_dict Boot.«dict» (qa1 (qComp (own := ["name", "tie"]) (js := [1, 2]) (by kernel_rfl) rfl (qiItems (qIx (kIx K hu) (qV 0) qInt (fun _ _ => rfl))) (fun _ _ _ _ => (qgT K rfl (qg1 (qgN (i := 0) (show List.Nodup (["name", "tie", "other", "paired"] : List Str) by decide +kernel) rfl (by first | exact Or.inl rfl | exact Or.inr rfl)) (qg1 (qgN (i := 1) (show List.Nodup (["name", "tie", "other", "paired"] : List Str) by decide +kernel) rfl (by first | exact Or.inl rfl | exact Or.inr rfl)) qg0)))) (fun _ _ _ _ => qif0) (fun _ _ _ _ => (qTup (qa1 (qV 0) (qa1 (qC c_names_of (hr.mono (by decide)) pass0 (qa1 (qIx (kIx K hu) (qV 2) qInt (fun _ _ => rfl)) (qa1 (qC c_tie_paired (hr.mono (by decide)) pass0 (qa1 (qV 1) (qa1 (qV 3) qa0))) qa0))) qa0))))) qa0)))), ?_⟩
    repeat walk_at "R"
    refine r_ix_tup hP.at_.tup (atI_nat (j := 1) rfl) ?_
    refine r_items_dic hP.hq (fun ndp o1 => ?_)
    refine comp2_n (n := kvs.length) (fun i out H' => Same (frzD q o1 kvs H) H' ∧ ∃ kv : List (Key × V), Paired (PrV K H') out kv ∧ PtAt H' kv ((TP P0 R0 ps).take i)) ⟨Same.refl _, [], .nil, .nil⟩ (fun i out H' hi hp => ⟨hp.1 _ _ upd_same, hi⟩) ?_ ?_
    · rintro N i v out H1 H2 hi ⟨s1, kv, pr, pt⟩ ⟨t, kv0, hkv, nt, rfl, rfl⟩ hN'
      obtain ⟨H3, e3, f3, m3, _⟩ := new_at (o := .tup _) nt
      rw [e3]
      have s3 := s1.trans m3
      have le3 := (le_frz (o := o1) hP.hq).trans s3.le
      have g3 : H3 q' = some (.dK kvs') := s3 _ _ (by rw [frz_ne hne.symm]; exact hR.hq)
      have gE : H3 e = some (.dK (pKV ps)) := s3 _ _ (by rw [frz_ne heq]; exact he)
      have R3 := hR.at_.mono le3
      have P3 := hP.at_.mono le3
      obtain ⟨x, hx, ex, bb, eb, sb⟩ := P3.ts.get hkv
      obtain ⟨kk, kvv⟩ := kv0
      have ex' : kk = Sum.inr x.1 := ex
      have eb' : kvv = .ref bb := eb
      subst ex' eb'
      refine r_gTup (SqT.of f3) rfl ?_
      repeat walk_at "R"
      refine ⟨rfl, ?_⟩
      repeat walk_at "R"
      refine r_ix_tup R3.tup (atI_nat (j := 1) rfl) ?_
      repeat walk_at "R"
      refine ⟨bb, e, x.2, ps, rfl, sb, .inl gE, fun lt H4 nlt m4 f4 => ?_⟩
      have R4 := R3.mono m4.le
      repeat walk_at "R"
      refine ⟨q', kvs', .ref lt, R0.ts.map (·.1), fun kv => decide (∃ y ∈ R0.ts, kv.1 = Sum.inr y.1 ∧ tpB ps x.2 y.2 = true), rfl, m4 _ _ g3, by rw [R4.ts.keys, map_inr], by omega, fun kv hkv H' le' Q' q' => ?_, fun l H5 ss nl m5 f5 es => ?_⟩
      · obtain ⟨jj, hjj⟩ := List.getElem?_of_mem hkv
        obtain ⟨y, hy, ey, b2, eb2, sb2⟩ := (R4.ts.mono le').get hjj
        obtain ⟨k1, v1⟩ := kv
        have ey' : k1 = Sum.inr y.1 := ey
        have eb2' : v1 = .ref b2 := eb2
        subst ey' eb2'
        have hym := List.mem_of_getElem? hy
        refine w_eq (q_eq_tup sb2 (le'.tup (SqT.of f4)) (flat_tie _) (tieO_flat _ _) ?_)
        have z : decide (∃ z ∈ R0.ts, (Sum.inr y.1 : Key) = Sum.inr z.1 ∧ tpB ps x.2 z.2 = true) = eqVs (tieV y.2) (tieO ps x.2) := by
          rw [Bool.eq_iff_iff, decide_eq_true_eq]
          constructor
          · rintro ⟨z, hz, e1, e2⟩
            have e3 : y = z := by
              have e4 : y.1 = z.1 := Sum.inr.inj e1
              exact Prod.ext e4 (nd_fst_uniq (nd_ts hR.nd) (show (y.1, y.2) ∈ R0.ts from hym) (by rw [e4]; exact hz))
            rw [e3]; exact e2
          · exact fun h => ⟨y, hym, rfl, h⟩
        rw [← z]; exact q'
      have es' : ss = (R0.ts.filter fun y => tpB ps x.2 y.2).map (·.1) := by
        refine inr_map_inj (es.trans ?_)
        have key : ∀ {kv : List (Key × V)} {ts : List (Str × Tie)}, TiesIs K H4 kv ts → (∀ y ∈ ts, y ∈ R0.ts) → (kv.filter fun kv => decide (∃ y ∈ R0.ts, kv.1 = Sum.inr y.1 ∧ tpB ps x.2 y.2 = true)).map (·.1) = ((ts.filter fun y => tpB ps x.2 y.2).map (·.1)).map Sum.inr := by
          intro kv ts w
          induction w with
          | nil => intro _; rfl
          | cons h t ih =>
            intro hs
            have ih' := ih fun y hy => hs y (List.mem_cons_of_mem _ hy)
            have hk := h.1
            rename_i kv0 y0 kvr tsr
            have e : decide (∃ y ∈ R0.ts, kv0.1 = Sum.inr y.1 ∧ tpB ps x.2 y.2 = true) = tpB ps x.2 y0.2 := by
              rw [Bool.eq_iff_iff, decide_eq_true_eq]
              constructor
              · rintro ⟨z, hz, e1, e2⟩
                have e4 : y0.1 = z.1 := Sum.inr.inj (hk.symm.trans e1)
                have e5 := nd_fst_uniq (nd_ts hR.nd) (show (y0.1, y0.2) ∈ R0.ts from hs y0 List.mem_cons_self) (show (y0.1, z.2) ∈ R0.ts by rw [e4]; exact hz)
                rw [e5]; exact e2
              · exact fun h => ⟨y0, hs y0 List.mem_cons_self, hk, h⟩
            cases hb : tpB ps x.2 y0.2 with
            | true =>
              rw [List.filter_cons_of_pos (by rw [e]; exact hb), List.filter_cons_of_pos (p := fun y : Str × Tie => tpB ps x.2 y.2) hb, List.map_cons, List.map_cons, List.map_cons, ih', hk]
            | false =>
              rw [List.filter_cons_of_neg (by rw [e, hb]; decide), List.filter_cons_of_neg (p := fun y : Str × Tie => tpB ps x.2 y.2) (by rw [hb]; decide), ih']
        exact key R4.ts fun y hy => hy
      repeat walk_at "R"
      refine ⟨small (by simp), fun t5 n5 => ?_⟩
      obtain ⟨H6, e6, f6, m6, _⟩ := new_at (o := .tup _) n5
      rw [e6]
      have m35 := m3.trans (m4.trans (m5.trans m6))
      have ol := Paired.length pr
      have ol2 := Paired.length pt
      rw [List.length_take] at ol2
      refine ⟨small (by omega), hN' _ _ ⟨s1.trans m35, kv ++ [(Sum.inr x.1, .ref l)], paired_snoc (Paired.imp' (fun _ _ z => PrV.mono m35.le z) pr) ⟨t5, rfl, SqT.of f6⟩, ?_⟩⟩
      have e7 : (TP P0 R0 ps).take (i + 1) = (TP P0 R0 ps).take i ++ [(x.1, ss)] := by
        rw [List.take_succ, show (TP P0 R0 ps)[i]? = some (x.1, ss) by unfold TP; rw [List.getElem?_map, hx, es']; rfl]; rfl
      rw [e7]
      exact ptAt_snoc (pt.same m35) (m6 _ _ f5)
    · rintro out H1 ⟨s1, kv, pr, pt⟩
      have ol := Paired.length pr
      have ol2 := Paired.length pt
      have lp : (TP P0 R0 ps).length = P0.ts.length := List.length_map _
      rw [List.length_take] at ol2
      rw [List.take_of_length_le (by omega)] at pt
      refine ⟨⟨s1 _ _ upd_same, Nat.le_refl _⟩, fun D hD => ⟨small (by omega), ?_⟩⟩
      have sM := same_new hP.hq s1 hD (u := .lst out)
      have fM := at_new s1 hD (u := .lst out)
      have prM := Paired.imp' (fun _ _ z => PrV.mono (le_new (d := q) (u := .lst out) hD) z) pr
      have ptM : PtAt (thaw q (upd H1 D (.lst out))) kv (TP P0 R0 ps) := Paired.imp' (fun _ _ z => ⟨z.1, let ⟨l, e, f⟩ := z.2; ⟨l, e, by
        have n1 : l ≠ q := fun y => by rw [y, s1 _ _ upd_same] at f; cases f
        rw [thaw_ne n1, upd_ne (ne_of_none f hD)]; exact f⟩⟩) pt
      generalize thaw q (upd H1 D (.lst out)) = HM at sM fM prM ptM ⊢
      repeat walk_at "R"
      refine d_dict_lst (SqL.of fM) prM (small (by omega)) (fun pp npp => ?_)
      have eK : putsK kv = kv := putsK_nd (by
        rw [ptM.keys, show ((TP P0 R0 ps).map fun x => (Sum.inr x.1 : Key)) = kvs.map (·.1) by unfold TP; rw [List.map_map, hP.at_.ts.keys]; rfl]
        exact ndp)
      rw [eK]
      obtain ⟨H2, e2, f2, m2, _⟩ := new_at (o := .dK kv) npp
      rw [e2]
      exact k pp kv H2 (sM.free npp) (sM.trans m2) f2 (ptM.same m2)
theorem small9 {n : Nat} (h : n ≤ 9000000) : n ≤ sizeLine := Nat.le_trans h (by decide)
def RwAt (K : PySem.W.Frag) (H : Hp) (x : LsT) : Prop := H x.1 = some (.lst (x.2.map fun t => V.ref t.1)) ∧ ∀ t ∈ x.2, SqT K H t.1 [.str t.2.1, .str t.2.2]
theorem RwAt.same {H H' : Hp} {x : LsT} (h : RwAt K H x) (s : Same H H') : RwAt K H' x := ⟨s _ _ h.1, fun t ht => s.tup (h.2 t ht)⟩
theorem sqt_updL {H : Hp} {d a : Addr} {ys xs : List V} {u : HO} (h : H d = some (.lst ys)) (s : SqT K H a xs) : SqT K (upd H d u) a xs := by
  rcases s with s | s
  · refine .inl ?_
    by_cases z : a = d
    · subst z
      rcases s with s | ⟨_, s⟩ <;> (rw [h] at s; cases s)
    · unfold Rd
      rw [upd_ne z]; exact s
  · exact .inr s
theorem RwAt.upd {H : Hp} {x : LsT} {l : Addr} {ys : List V} {u : HO} (h : RwAt K H x) (hl : H l = some (.lst ys)) (ne : x.1 ≠ l) : RwAt K (upd H l u) x := ⟨by rw [upd_ne ne]; exact h.1, fun t ht => sqt_updL hl (h.2 t ht)⟩
theorem take_snoc' {α : Type} {l : List α} {i : Nat} {x : α} (h : l[i]? = some x) : l.take (i + 1) = l.take i ++ [x] := by rw [List.take_succ, h]; rfl
def extL (row : List PrS) (x : Str × List Str) : List (List PrS) := (x.2.filter fun p => !decide (p ∈ row.map (·.2))).map fun p => row ++ [(x.1, p)]
def stepL (rows : List (List PrS)) (x : Str × List Str) : List (List PrS) := rows ++ rows.flatMap fun row => extL row x
def pairL (pa : List (Str × List Str)) : List (List PrS) := pa.foldl stepL [[]]
theorem pairL_snoc (pa : List (Str × List Str)) (x : Str × List Str) : pairL (pa ++ [x]) = stepL (pairL pa) x := by
  unfold pairL
  rw [List.foldl_append]; rfl
theorem extL_len (row : List PrS) (x : Str × List Str) : (extL row x).length ≤ x.2.length := by
  unfold extL
  rw [List.length_map]
  exact List.length_filter_le _ _
theorem flat_le {α β : Type} {f : α → List β} {m : Nat} : ∀ {l : List α}, (∀ a ∈ l, (f a).length ≤ m) → (l.flatMap f).length ≤ l.length * m
  | [], _ => by simp
  | a :: l, h => by
    rw [List.flatMap_cons, List.length_append, List.length_cons, Nat.succ_mul]
    have h1 := h a List.mem_cons_self
    have h2 := flat_le (l := l) fun b hb => h b (List.mem_cons_of_mem _ hb)
    omega
theorem pairL_len : ∀ {pa : List (Str × List Str)}, (∀ x ∈ pa, x.2.length ≤ 4) → (pairL pa).length ≤ 5 ^ pa.length := by
  intro pa
  generalize hn : pa.length = n
  induction n generalizing pa with
  | zero => intro _; rw [List.eq_nil_of_length_eq_zero hn]; exact Nat.le_refl _
  | succ n ih =>
    intro h
    obtain ⟨pb, x, rfl⟩ : ∃ pb x, pa = pb ++ [x] := ⟨pa.dropLast, pa.getLast (by intro e; rw [e] at hn; cases hn), (List.dropLast_concat_getLast _).symm⟩
    rw [List.length_append, List.length_singleton] at hn
    have hb := ih (pa := pb) (by omega) fun y hy => h y (List.mem_append_left _ hy)
    rw [pairL_snoc]
    unfold stepL
    rw [List.length_append, Nat.pow_succ]
    have z := flat_le (l := pairL pb) (f := fun row => extL row x) (m := 4) fun r _ => Nat.le_trans (extL_len r x) (h x (by simp))
    omega
theorem pairL_row : ∀ {pa : List (Str × List Str)} {r : List PrS}, r ∈ pairL pa → r.length ≤ pa.length := by
  intro pa
  generalize hn : pa.length = n
  induction n generalizing pa with
  | zero =>
    intro r hr
    rw [List.eq_nil_of_length_eq_zero hn] at hr
    rw [List.mem_singleton.mp hr]
    exact Nat.le_refl _
  | succ n ih =>
    intro r hr
    obtain ⟨pb, x, rfl⟩ : ∃ pb x, pa = pb ++ [x] := ⟨pa.dropLast, pa.getLast (by intro e; rw [e] at hn; cases hn), (List.dropLast_concat_getLast _).symm⟩
    rw [List.length_append, List.length_singleton] at hn
    rw [pairL_snoc] at hr
    rcases List.mem_append.mp hr with z | z
    · have := ih (pa := pb) (by omega) z
      omega
    · obtain ⟨row, hrow, z⟩ := List.mem_flatMap.mp z
      obtain ⟨p, _, rfl⟩ := List.mem_map.mp z
      have := ih (pa := pb) (by omega) hrow
      rw [List.length_append, List.length_singleton]
      omega
def sp_pairings (K : PySem.W.Frag) : Sp := fun vs H Q _ => ∃ (d : Addr) (kvs : List (Key × V)) (pa : List (Str × List Str)), vs = [.ref d] ∧ H d = some (.dK kvs) ∧ PtAt H kvs pa ∧ pa.length ≤ 4 ∧ (∀ x ∈ pa, x.2.length ≤ 4) ∧ ∀ (l : Addr) (ls : List LsT) (H' : Hp), H l = none → Same H H' → H' l = some (.lst (ls.map fun x => V.ref x.1)) → (∀ x ∈ ls, RwAt K H' x ∧ H x.1 = none) → (ls.map fun x => x.2.map (·.2)) = pairL pa → Q (.ref l) H'
set_option maxHeartbeats 4000000 in
abbrev C_pairings (P : Program) (w : World) (K : PySem.W.Frag) (mg : Str → Option Value) (base : Heap) : Prop := Cal P w K mg base CX0 1 "pairings" ["partners"] [] (sp_pairings K)
theorem ok_pairings {f : Addr} {fd : FuncData} (T : Txt K mg) (F : Fun K "pairings" "pairings" s_pairings f fd) : FnOk P w K mg base CX0 1 f fd ["partners"] (sp_pairings K) := by
  refine F.ok sc_pairings (fun vs H Q E h => ?_) (fun cdv A outer s H vs Q E hr h => ?_)
  · obtain ⟨d, kvs, pa, rfl, _⟩ := h
    rfl
  · obtain ⟨d, kvs, pa, rfl, hd, hpt, hpl, hx3, k⟩ := h
    have lpk := Paired.length hpt
    have hN := sc_pairings.nd
    have hu := hu_le hr
    refine ⟨_, QSs.r (qsC (qSet (i := 1) hN rfl (by first | exact Or.inl rfl | exact Or.inr rfl) (qLst (qa1 (qLst qa0) qa0)))
      (qsC (qFor PassesOwn.never rfl (qiIt K (qV 0)) (qgN (i := 2) hN rfl (by first | exact Or.inl rfl | exact Or.inr rfl))
        (qsC (qSet (i := 3) hN rfl (by first | exact Or.inl rfl | exact Or.inr rfl) (qBT (kListV K rfl) T.b_list Boot.«list» (qa1 (qV 1) qa0)))
      (qsC (qFor PassesOwn.never rfl (qiIt K (qV 1)) (qgN (i := 4) hN rfl (by first | exact Or.inl rfl | exact Or.inr rfl))
        (qsC (qSet (i := 5) hN rfl (by first | exact Or.inl rfl | exact Or.inr rfl) (qComp (own := ["pair"]) (js := []) (by kernel_rfl) rfl (qiIt K (qV 4)) (fun _ _ _ _ => (qgN (i := 0) (show List.Nodup (["pair"] : List Str) by decide +kernel) rfl (by first | exact Or.inl rfl | exact Or.inr rfl))) (fun _ _ _ _ => qif0) (fun _ _ _ _ => (qIx (kIx K hu) (qV 0) qInt (fun _ _ => rfl)))))
      (qs1 (qEx (qM PySem.F.plainAttrs_list PySem.F.slot_list_extend PySem.F.type_list_extend mt_list_extend1 K (qV 3) (qa1 (qComp (own := ["partner"]) (js := [5, 4, 2]) (by kernel_rfl) rfl (qiIt K (qIx (kIx K hu) (qV 0) (qV 2) (fun _ _ => rfl))) (fun _ _ _ _ => (qgN (i := 0) (show List.Nodup (["partner", "used", "row", "name"] : List Str) by decide +kernel) rfl (by first | exact Or.inl rfl | exact Or.inr rfl))) (fun _ _ _ _ => (qif1 (qtCmp (kNotIn K hu) (qV 0) (qV 1) (by rfl)))) (fun _ _ _ _ => (qOp (kAdd K) (qV 2) (qLst (qa1 (qTup (qa1 (qV 3) (qa1 (qV 0) qa0))) qa0))))) qa0))))))
      (qs1 (qSet (i := 1) hN rfl (by first | exact Or.inl rfl | exact Or.inr rfl) (qV 3))))))
      (qs1 (qRet (qV 1))))), ?_⟩
    refine r_seq ?_
    repeat walk_at "E"
    refine ⟨small (by simp), fun l0 n0 => ?_⟩
    obtain ⟨H1, e1, f1, m1, _⟩ := new_at (o := .lst []) n0
    rw [e1]
    repeat walk_at "E"
    refine ⟨small (by simp), fun l1 n1 => ?_⟩
    obtain ⟨H2, e2, f2, m2, _⟩ := new_at (o := .lst [.ref l0]) n1
    rw [e2]
    have m02 := m1.trans m2
    repeat walk_at "E"
    refine r_hide fun nx1 hx => ?_
    repeat walk_at "E"
    refine r_it_dic (m02 _ _ hd) (fun ndd o1 => ?_)
    refine for2_b (n := kvs.length) (fun i σ H' => Same (frzD d o1 kvs H) H' ∧ ∃ (lr : Addr) (ls : List LsT) (v2 v3 v4 v5 : Option V), σ = [some (.ref d), some (.ref lr), v2, v3, v4, v5] ∧ H lr = none ∧ H' lr = some (.lst (ls.map fun x => V.ref x.1)) ∧ (∀ x ∈ ls, RwAt K H' x ∧ H x.1 = none) ∧ (ls.map fun x => x.2.map (·.2)) = pairL (pa.take i)) ⟨same_frz m02, l1, [(l0, [])], _, _, _, _, rfl, m1.free n1, ?_, ?_, rfl⟩ (fun i σ H' hi hp => ⟨hp.1 _ _ upd_same, hi⟩) ?_ ?_
    · rw [frz_ne (ne_of_none (m1 _ _ hd) n1).symm]; exact f2
    · intro x hx
      rw [List.mem_singleton.mp hx]
      exact ⟨⟨by rw [frz_ne (ne_of_none hd n0).symm]; exact m2 _ _ f1, fun _ h => nomatch h⟩, n0⟩
    · rintro bk i v σ H3' H3 hi ⟨s3, lr, ls, v2, v3, v4, v5, rfl, nlr, g3, rw3, es3⟩ ⟨rfl, kv, hkv, rfl⟩
      obtain ⟨x, hx, ek, lx, ev, fx⟩ := paired_get hpt hkv
      have hxm := List.mem_of_getElem? hx
      have hx3' := hx3 x hxm
      have hk9 : valV kvs (Sum.inr x.1 : Key) = some (.ref lx) := by
        have z := valV_nd ndd (List.mem_of_getElem? hkv)
        rw [ek, ev] at z; exact z
      have lsl : ls.length ≤ 625 := by
        have z := congrArg List.length es3
        rw [List.length_map] at z
        have y := pairL_len (pa := pa.take i) fun y hy => hx3 y (List.mem_of_mem_take hy)
        rw [z]
        refine Nat.le_trans y (Nat.le_trans (Nat.pow_le_pow_right (by decide) (show (pa.take i).length ≤ 4 by rw [List.length_take]; omega)) (by decide))
      have rdd : ∀ H', Same (frzD d o1 kvs H) H' → Rd H' d (.dK kvs) := fun H' s => .inr ⟨o1, s _ _ frz_at⟩
      have fxG : ∀ H', Same (frzD d o1 kvs H) H' → H' lx = some (.lst (x.2.map V.str)) := fun H' s => s _ _ (by rw [frz_ne (fun y => by rw [y, hd] at fx; cases fx)]; exact fx)
      have ekv : kV kv.1 = .str x.1 := by rw [ek]; rfl
      show gName 2 (kV kv.1) _ _ _
      rw [ekv]
      repeat walk_at "E"
      refine r_hide fun nx2 hx2 => ?_
      repeat walk_at "E"
      refine v_list (r_list_lst (SqL.of g3) (fun ll nll => ?_))
      obtain ⟨H4, e4, f4, m4, _⟩ := new_at (o := .lst (ls.map fun x => V.ref x.1)) nll
      rw [e4]
      repeat walk_at "E"
      refine hx2 [some (.ref d), some (.ref lr), some (.str x.1), some (.ref ll), v4, v5] H4 ?_
      clear hx2
      refine r_hide fun nx3 hx2 => ?_
      repeat walk_at "E"
      refine r_it_lst (SqL.of (m4 _ _ g3)) ?_
      refine for2_b (n := ls.length) (fun j σ H' => Same H3 H' ∧ (∃ v4 v5, σ = [some (.ref d), some (.ref lr), some (.str x.1), some (.ref ll), v4, v5]) ∧ ∃ ms : List LsT, H' ll = some (.lst ((ls ++ ms).map fun x => V.ref x.1)) ∧ (∀ y ∈ ms, RwAt K H' y ∧ y.1 ≠ ll ∧ H y.1 = none) ∧ (ms.map fun y => y.2.map (·.2)) = ((ls.take j).map fun y => y.2.map (·.2)).flatMap fun row => extL row x) ⟨m4, ⟨_, _, rfl⟩, [], by rw [List.append_nil]; exact f4, (fun _ h => nomatch h), rfl⟩ (fun j σ H' hj hp => ⟨_, .ref ls[j].1, SqL.of (hp.1 _ _ g3), by rw [List.getElem?_map, List.getElem?_eq_getElem hj]; rfl⟩) ?_ ?_
      · rintro bk2 j v σ H5' H5 hj ⟨s5, ⟨v4, v5, rfl⟩, ms, f5, rw5, em5⟩ yy
        obtain ⟨rfl, hxx⟩ := Itl.get yy (SqL.of (s5 _ _ g3))
        rw [List.getElem?_map, List.getElem?_eq_getElem hj] at hxx
        cases hxx
        have hjm := List.getElem_mem hj
        have hT : ls.take (j + 1) = ls.take j ++ [ls[j]] := take_snoc' (List.getElem?_eq_getElem hj)
        have R3 := (rw3 _ hjm).1
        generalize ls[j] = y at hjm hT R3
        have R5 := R3.same s5
        have hyl : y.2.length ≤ 4 := by
          have z : y.2.map (·.2) ∈ pairL (pa.take i) := by rw [← es3]; exact List.mem_map.mpr ⟨y, hjm, rfl⟩
          have w := pairL_row z
          rw [List.length_map, List.length_take] at w
          omega
        have mslen : ms.length ≤ 2500 := by
          have z := congrArg List.length em5
          rw [List.length_map] at z
          have w := flat_le (l := (ls.take j).map fun y => y.2.map (·.2)) (f := fun row => extL row x) (m := 4) fun r _ => Nat.le_trans (extL_len r x) hx3'
          rw [List.length_map, List.length_take] at w
          omega
        repeat walk_at "E"
        refine r_hide fun nx4 hx4 => ?_
        repeat walk_at "E"
        refine r_it_lst (SqL.of R5.1) ?_
        refine comp2_n (n := y.2.length) (fun t out H' => Same H5 H' ∧ out = (y.2.take t).map fun z => V.str z.2.2) ⟨Same.refl _, rfl⟩ (fun t out H' ht hp => ⟨_, .ref y.2[t].1, SqL.of (hp.1 _ _ R5.1), by rw [List.getElem?_map, List.getElem?_eq_getElem ht]; rfl⟩) ?_ ?_
        · rintro N t v out H6' H6 ht ⟨s6, rfl⟩ yy hN'
          obtain ⟨rfl, hxx⟩ := Itl.get yy (SqL.of (s6 _ _ R5.1))
          rw [List.getElem?_map, List.getElem?_eq_getElem ht] at hxx
          cases hxx
          repeat walk_at "E"
          refine ⟨rfl, ?_⟩
          repeat walk_at "E"
          refine r_ix_tup (s6.tup (R5.2 _ (List.getElem_mem ht))) (atI_nat (j := 1) rfl) ?_
          refine ⟨small (by rw [List.length_map, List.length_take]; omega), hN' _ _ ⟨s6, ?_⟩⟩
          rw [take_snoc' (List.getElem?_eq_getElem ht), List.map_append]; rfl
        rintro out H6 ⟨s6, rfl⟩
        rw [List.take_of_length_le (Nat.le_refl _)]
        refine ⟨⟨_, SqL.of (s6 _ _ R5.1), by rw [List.length_map]; exact Nat.le_refl _⟩, fun lu nlu => ⟨small (by rw [List.length_map]; omega), ?_⟩⟩
        obtain ⟨H7, e7, f7, m7, _⟩ := new_at (H := H6) (o := .lst (y.2.map fun z => V.str z.2.2)) nlu
        change gName _ _ _ (upd H6 lu (.lst (y.2.map fun z => V.str z.2.2))) _
        rw [e7]
        have f7' : H7 lu = some (.lst (((y.2.map (·.2)).map (·.2)).map V.str)) := by rw [f7, List.map_map, List.map_map]; rfl
        have m57 := s6.trans m7
        have s7 := s5.trans m57
        have R7 := R5.same m57
        repeat walk_at "E"
        refine hx4 [some (.ref d), some (.ref lr), some (.str x.1), some (.ref ll), some (.ref y.1), some (.ref lu)] H7 ?_
        clear hx4
        have f57 := m57 _ _ f5
        have sG7 := s3.trans s7
        repeat walk_at "E"
        refine ⟨.inl ⟨rfl, _, SqL.of f57⟩, ?_⟩
        repeat walk_at "E"
        refine r_ix_dic (v := .ref lx) (by have z := dget (k := Sum.inr x.1) (rdd _ sG7); rw [hk9] at z; exact z) ?_
        refine r_it_lst (SqL.of (fxG _ sG7)) ?_
        refine comp2_n (n := x.2.length) (fun t out H' => Same H7 H' ∧ ∃ ns : List LsT, out = (ns.map fun z => V.ref z.1) ∧ (∀ z ∈ ns, RwAt K H' z ∧ z.1 ≠ ll ∧ H z.1 = none) ∧ (ns.map fun z => z.2.map (·.2)) = extL (y.2.map (·.2)) (x.1, x.2.take t) ∧ ns.length ≤ t) ⟨Same.refl _, [], rfl, (fun _ h => nomatch h), rfl, Nat.le_refl _⟩ (fun t out H' ht hp => ⟨_, .str x.2[t], SqL.of (fxG _ (sG7.trans hp.1)), by rw [List.getElem?_map, List.getElem?_eq_getElem ht]; rfl⟩) ?_ ?_
        · rintro N t v out H8' H8 ht ⟨s8, ns, rfl, rw8, en8, nl8⟩ yy hN'
          obtain ⟨rfl, hxx⟩ := Itl.get yy (SqL.of (fxG _ (sG7.trans s8)))
          rw [List.getElem?_map, List.getElem?_eq_getElem ht] at hxx
          cases hxx
          have hTt := take_snoc' (List.getElem?_eq_getElem ht)
          repeat walk_at "E"
          refine ⟨rfl, ?_⟩
          repeat walk_at "E"
          refine notIn_strs (SqL.of (s8 _ _ f7')) ?_
          repeat walk_at "E"
          refine r_iteN (fun hb => ?_) (fun hb => ?_)
          · repeat walk_at "E"
            refine ⟨small (by simp), fun t9 n9 => ?_⟩
            obtain ⟨H9, e9, f9, m9, _⟩ := new_at (o := .tup [.str x.1, .str x.2[t]]) n9
            rw [e9]
            repeat walk_at "E"
            refine ⟨small (by simp), fun lA nA => ?_⟩
            obtain ⟨HA, eA, fA, mA, _⟩ := new_at (o := .lst [.ref t9]) nA
            rw [eA]
            have m8A := m9.trans mA
            have RA := (R7.same s8).same m8A
            refine r_cat RA.1 fA (small (by rw [List.length_map]; simp; omega)) (fun lB nB => ?_)
            obtain ⟨HB, eB, fB, mB, _⟩ := new_at (o := .lst ((y.2.map fun t => V.ref t.1) ++ [.ref t9])) nB
            rw [eB]
            have m8B := m8A.trans mB
            refine ⟨small (by rw [List.length_map]; omega), hN' _ _ ⟨s8.trans m8B, ns ++ [(lB, y.2 ++ [(t9, (x.1, x.2[t]))])], by rw [List.map_append]; rfl, fun z hz => ?_, ?_, by rw [List.length_append]; simp; omega⟩⟩
            · rcases List.mem_append.mp hz with q | q
              · exact ⟨(rw8 z q).1.same m8B, (rw8 z q).2⟩
              · rw [List.mem_singleton.mp q]
                refine ⟨⟨by rw [List.map_append]; exact fB, fun u hu => ?_⟩, (ne_of_none ((s8.trans m8A) _ _ f57) nB).symm, free_new hd (sG7.trans (s8.trans m8A)) nB⟩
                rcases List.mem_append.mp hu with q | q
                · exact mB.tup (RA.2 u q)
                · rw [List.mem_singleton.mp q]
                  exact SqT.of ((mA.trans mB) _ _ f9)
            · rw [List.map_append, en8, hTt]
              unfold extL
              rw [List.filter_append, List.filter_cons_of_pos (by simpa using hb), List.map_append, List.map_singleton, List.map_append]
              rfl
          · refine hN' _ _ ⟨s8, ns, rfl, rw8, ?_, by omega⟩
            rw [en8, hTt]
            unfold extL
            rw [List.filter_append, List.filter_cons_of_neg (by simpa using hb)]
            simp
        rintro out H8 ⟨s8, ns, rfl, rw8, en8, nl8⟩
        rw [List.take_of_length_le (Nat.le_refl _)] at en8
        refine ⟨⟨_, SqL.of (fxG _ (sG7.trans s8)), by rw [List.length_map]; exact Nat.le_refl _⟩, fun D hD => ⟨small (by rw [List.length_map]; omega), ?_⟩⟩
        obtain ⟨H9, e9, f9, m9, _⟩ := new_at (H := H8) (o := .lst (ns.map fun z => V.ref z.1)) hD
        change tNil _ (upd H8 D (.lst (ns.map fun z => V.ref z.1))) _
        rw [e9]
        have m79 := s8.trans m9
        have f59 := m79 _ _ f57
        repeat walk_at "E"
        refine ⟨ll, D, _, _, rfl, rfl, f59, f9, small9 (by rw [List.length_map, List.length_map, List.length_append]; omega), ?_⟩
        refine ⟨sUpd0 (s7.trans m79) nll, ⟨_, _, rfl⟩, ms ++ ns, ?_, fun z hz => ?_, ?_⟩
        · rw [upd_same, ← List.append_assoc, List.map_append (l₂ := ns)]
        · rcases List.mem_append.mp hz with q | q
          · exact ⟨((rw5 z q).1.same (m57.trans m79)).upd f59 (rw5 z q).2.1, (rw5 z q).2⟩
          · exact ⟨((rw8 z q).1.same m9).upd f59 (rw8 z q).2.1, (rw8 z q).2⟩
        · rw [List.map_append, em5, en8, hT, List.map_append, List.flatMap_append, List.map_singleton, List.flatMap_singleton]
      · rintro σ H5 ⟨s5, ⟨v4, v5, rfl⟩, ms, f5, rw5, em5⟩
        refine ⟨⟨_, SqL.of (s5 _ _ g3), by rw [List.length_map]; exact Nat.le_refl _⟩, ?_⟩
        rw [List.take_of_length_le (Nat.le_refl _)] at em5
        refine hx2 [some (.ref d), some (.ref lr), some (.str x.1), some (.ref ll), v4, v5] H5 ?_
        repeat walk_at "E"
        refine ⟨s3.trans s5, ll, ls ++ ms, _, _, _, _, rfl, free_new hd s3 nll, f5, fun z hz => ?_, ?_⟩
        · rcases List.mem_append.mp hz with q | q
          · exact ⟨(rw3 z q).1.same s5, (rw3 z q).2⟩
          · exact ⟨(rw5 z q).1, (rw5 z q).2.2⟩
        · rw [take_snoc' hx, pairL_snoc, List.map_append, em5, es3]
          rfl
    rintro σ H3 ⟨s3, lr, ls, v2, v3, v4, v5, rfl, nlr, g3, rw3, es3⟩
    refine ⟨⟨s3 _ _ upd_same, Nat.le_refl _⟩, ?_⟩
    rw [List.take_of_length_le (by omega)] at es3
    have hdd : H3 d = some (.frz o1 (.dK kvs)) := s3 _ _ upd_same
    have ned : ∀ {b : Addr} {zs : List V}, H3 b = some (.lst zs) → b ≠ d := fun h z => by rw [z, hdd] at h; cases h
    refine hx _ _ ?_
    repeat walk_at "R"
    refine k lr ls _ nlr (s3.thaw hd) (by rw [thaw_ne (ned g3)]; exact g3) (fun z hz => ⟨⟨by rw [thaw_ne (ned (rw3 z hz).1.1)]; exact (rw3 z hz).1.1, fun t ht => le_thaw.tup ((rw3 z hz).1.2 t ht)⟩, (rw3 z hz).2⟩) es3
def ovL (P R : Web) : List (List PrS) := (pairL (PP P R)).flatMap fun a => (pairL (TP P R a)).map fun b => a ++ b
def SrP (ps : List PrS) : Prop := ps.Pairwise fun a b => ¬ keyP [b] < keyP [a]
def OvR (x : LsT) (r : List PrS) : Prop := (x.2.map (·.2)).Perm r ∧ SrP (x.2.map (·.2))
theorem pairL_keys : ∀ {pa : List (Str × List Str)} {r : List PrS}, r ∈ pairL pa → (r.map (·.1)).Sublist (pa.map (·.1)) := by
  intro pa
  generalize hn : pa.length = n
  induction n generalizing pa with
  | zero =>
    intro r hr
    rw [List.eq_nil_of_length_eq_zero hn] at hr
    rw [List.mem_singleton.mp hr]
    exact List.nil_sublist _
  | succ n ih =>
    intro r hr
    obtain ⟨pb, x, rfl⟩ : ∃ pb x, pa = pb ++ [x] := ⟨pa.dropLast, pa.getLast (by intro e; rw [e] at hn; cases hn), (List.dropLast_concat_getLast _).symm⟩
    rw [List.length_append, List.length_singleton] at hn
    rw [pairL_snoc] at hr
    rw [List.map_append]
    rcases List.mem_append.mp hr with z | z
    · exact (ih (pa := pb) (by omega) z).trans (List.sublist_append_left _ _)
    · obtain ⟨row, hrow, z⟩ := List.mem_flatMap.mp z
      obtain ⟨p, _, rfl⟩ := List.mem_map.mp z
      rw [List.map_append]
      exact (ih (pa := pb) (by omega) hrow).append (List.Sublist.refl _)
theorem PP_keys (P R : Web) : (PP P R).map (·.1) = P.pts.map (·.1) := by unfold PP; rw [List.map_map]; rfl
theorem TP_keys (P R : Web) (ps : List PrS) : (TP P R ps).map (·.1) = P.ts.map (·.1) := by unfold TP; rw [List.map_map]; rfl
theorem PP_bd {P R : Web} (h : R.pts.length ≤ 4) : ∀ x ∈ PP P R, x.2.length ≤ 4 := fun x hx => by
  obtain ⟨y, _, rfl⟩ := List.mem_map.mp hx
  show (List.map _ _).length ≤ 4
  rw [List.length_map]
  exact Nat.le_trans (List.length_filter_le _ _) h
theorem TP_bd {P R : Web} {ps : List PrS} (h : R.ts.length ≤ 4) : ∀ x ∈ TP P R ps, x.2.length ≤ 4 := fun x hx => by
  obtain ⟨y, _, rfl⟩ := List.mem_map.mp hx
  show (List.map _ _).length ≤ 4
  rw [List.length_map]
  exact Nat.le_trans (List.length_filter_le _ _) h
theorem pairL_625 {pa : List (Str × List Str)} (h : pa.length ≤ 4) (hx : ∀ x ∈ pa, x.2.length ≤ 4) : (pairL pa).length ≤ 625 := Nat.le_trans (pairL_len hx) (Nat.le_trans (Nat.pow_le_pow_right (by decide) h) (by decide))
theorem rw_prv {H : Hp} : ∀ {l : List (Addr × PrS)}, (∀ t ∈ l, SqT K H t.1 [.str t.2.1, .str t.2.2]) → Paired (PrV K H) (l.map fun t => V.ref t.1) (pKV (l.map (·.2)))
  | [], _ => .nil
  | t :: l, h => .cons ⟨t.1, rfl, h t List.mem_cons_self⟩ (rw_prv fun u hu => h u (List.mem_cons_of_mem _ hu))
theorem sameT_pr {a b c d : Str} : Paired SameT [V.str a, .str b] [V.str c, .str d] := .cons (.inl ⟨_, _, rfl, rfl⟩) (.cons (.inl ⟨_, _, rfl, rfl⟩) .nil)
theorem r_srt {H : Hp} {Q : VK} {p : Addr} {us : List (Addr × PrS)} (hp : SqL K H p (us.map fun t => V.ref t.1)) (h : ∀ t ∈ us, SqT K H t.1 [.str t.2.1, .str t.2.2]) (hl : us.length < 64) (q : ∀ us' : List (Addr × PrS), us'.Perm us → SrP (us'.map (·.2)) → ∀ l, H l = none → Q (.ref l) (upd H l (.lst (us'.map fun t => V.ref t.1)))) : rSortedT K [.ref p] H Q := by
  refine ⟨p, us.map fun t => (t.1, [.str t.2.1, .str t.2.2]), rfl, by rw [List.map_map]; exact hp, fun t ht => ?_, fun t ht t' ht' => ?_, by rw [List.length_map]; exact hl, fun ts' pm pw l nl => ?_⟩
  · obtain ⟨u, hu, rfl⟩ := List.mem_map.mp ht
    exact ⟨h u hu, _, _, rfl⟩
  · obtain ⟨u, _, rfl⟩ := List.mem_map.mp ht
    obtain ⟨u', _, rfl⟩ := List.mem_map.mp ht'
    exact sameT_pr
  · obtain ⟨us', rfl, pm'⟩ := perm_map_ex _ pm us rfl
    have z := q us' pm' (by
      rw [List.pairwise_map] at pw
      exact List.pairwise_map.mpr pw) l nl
    rw [List.map_map]; exact z
def sp_overlaps (K : PySem.W.Frag) : Sp := fun vs H Q _ => ∃ (a p q a' p' q' : Addr) (kvs kvs' : List (Key × V)) (P R : Web), vs = [.ref a, .ref a'] ∧ WebIs 6 K H a p q kvs P ∧ WebIs 6 K H a' p' q' kvs' R ∧ p ≠ p' ∧ q ≠ q' ∧ P.pts.length ≤ 4 ∧ P.ts.length ≤ 4 ∧ R.pts.length ≤ 4 ∧ R.ts.length ≤ 4 ∧
  ∀ (l : Addr) (ls ls0 : List LsT) (H' : Hp), H l = none → Same H H' → H' l = some (.lst (ls.map fun x => V.ref x.1)) → (∀ x ∈ ls, RwAt K H' x ∧ x.1 ≠ l ∧ H x.1 = none) → ls.Pairwise (fun a b => ¬ keyP (b.2.map (·.2)) < keyP (a.2.map (·.2))) → ls.Perm ls0 → Paired OvR ls0 (ovL P R) → Q (.ref l) H'
set_option maxHeartbeats 4000000 in
abbrev C_overlaps (P : Program) (w : World) (K : PySem.W.Frag) (mg : Str → Option Value) (base : Heap) : Prop := Cal P w K mg base CX0 3 "overlaps" ["piece", "other"] [] (sp_overlaps K)
theorem ok_overlaps {f : Addr} {fd : FuncData} (T : Txt K mg) (c_pairings : C_pairings P w K mg base) (c_point_partners : C_point_partners P w K mg base) (c_tie_partners : C_tie_partners P w K mg base) (F : Fun K "overlaps" "overlaps" s_overlaps f fd) : FnOk P w K mg base CX0 3 f fd ["piece", "other"] (sp_overlaps K) := by
  refine F.ok sc_overlaps (fun vs H Q E h => ?_) (fun cdv A outer s H vs Q E hr h => ?_)
  · obtain ⟨a, p, q, a', p', q', kvs, kvs', P, R, rfl, _⟩ := h
    rfl
  · obtain ⟨a, p, q, a', p', q', kvs, kvs', P0, R0, rfl, hP, hR, n1, n2, lp1, lp2, lr1, lr2, k⟩ := h
    have hN := sc_overlaps.nd
    have hu := hu_le hr
    refine ⟨_, QSs.r (qsC (qSet (i := 2) hN rfl (by first | exact Or.inl rfl | exact Or.inr rfl) (qLst qa0))
      (qsC (qFor PassesOwn.never rfl (qiIt K (qC c_pairings (hr.mono (by decide)) pass0 (qa1 (qC c_point_partners (hr.mono (by decide)) pass0 (qa1 (qV 0) (qa1 (qV 1) qa0))) qa0))) (qgN (i := 3) hN rfl (by first | exact Or.inl rfl | exact Or.inr rfl))
        (qs1 (qFor PassesOwn.never rfl (qiIt K (qC c_pairings (hr.mono (by decide)) pass0 (qa1 (qC c_tie_partners (hr.mono (by decide)) pass0 (qa1 (qV 0) (qa1 (qV 1) (qa1 (qBT (kDict K rfl) T.b_dict Boot.«dict» (qa1 (qV 3) qa0)) qa0)))) qa0))) (qgN (i := 4) hN rfl (by first | exact Or.inl rfl | exact Or.inr rfl))
        (qs1 (qEx (qM PySem.F.plainAttrs_list PySem.F.slot_list_append PySem.F.type_list_append mt_list_append1 K (qV 2) (qa1 (qB (kSortedT K) T.b_sorted Boot.«sorted» (qa1 (qOp (kAdd K) (qV 3) (qV 4)) qa0)) qa0)))))))
      (qs1 (qRet (qB (kSortedP K hr) T.b_sorted Boot.«sorted» (qa1 (qV 2) qa0)))))), ?_⟩
    refine r_seq ?_
    repeat walk_at "E"
    refine ⟨small (by simp), fun ld nld => ?_⟩
    obtain ⟨H1, e1, f1, m1, _⟩ := new_at (o := .lst []) nld
    rw [e1]
    repeat walk_at "E"
    refine r_hide fun nx1 hx => ?_
    repeat walk_at "E"
    refine ⟨a, p, q, a', p', q', kvs, kvs', P0, R0, rfl, hP.same m1, hR.same m1, n1, fun d kv H2 nd2 m2 f2 pt2 => ?_⟩
    repeat walk_at "E"
    refine ⟨d, kv, PP P0 R0, rfl, f2, pt2, by unfold PP; rw [List.length_map]; exact lp1, PP_bd lr1, fun lP ls H3 n3 m3 f3 rw3 es3 => ?_⟩
    have m13 := m2.trans m3
    have s3 := m1.trans m13
    have nPd : lP ≠ ld := fun z => by rw [z, m2 _ _ f1] at n3; cases n3
    have lsl : ls.length ≤ 625 := by
      have z := congrArg List.length es3
      rw [List.length_map] at z
      rw [z]
      exact pairL_625 (by unfold PP; rw [List.length_map]; exact lp1) (PP_bd lr1)
    have nls : ∀ x ∈ ls, x.1 ≠ ld ∨ True := fun _ _ => .inr trivial
    refine r_it_lst (SqL.of f3) ?_
    refine for2_b (n := ls.length) (fun i σ H' => Same H H' ∧ H' lP = some (.lst (ls.map fun x => V.ref x.1)) ∧ (∀ x ∈ ls, RwAt K H' x ∧ x.1 ≠ ld) ∧ (∃ v3 v4, σ = [some (.ref a), some (.ref a'), some (.ref ld), v3, v4]) ∧ ∃ tl : List LsT, H' ld = some (.lst (tl.map fun x => V.ref x.1)) ∧ (∀ x ∈ tl, RwAt K H' x ∧ x.1 ≠ ld ∧ H x.1 = none) ∧ Paired OvR tl (((pairL (PP P0 R0)).take i).flatMap fun a => (pairL (TP P0 R0 a)).map fun b => a ++ b) ∧ tl.length ≤ i * 625) ⟨s3, f3, ?_, ⟨_, _, rfl⟩, [], m13 _ _ f1, (fun _ h => nomatch h), .nil, Nat.zero_le _⟩ (fun i σ H' hi hp => ⟨_, .ref ls[i].1, SqL.of hp.2.1, by rw [List.getElem?_map, List.getElem?_eq_getElem hi]; rfl⟩) ?_ ?_
    · exact fun x hx => ⟨(rw3 x hx).1, fun z => by have y := (rw3 x hx).2; rw [z, m2 _ _ f1] at y; cases y⟩
    · rintro bk i v σ H4' H4 hi ⟨s4, g4, rw4, ⟨v3, v4, rfl⟩, tl, t4, rt4, pr4, hl4⟩ yy
      obtain ⟨rfl, hxx⟩ := Itl.get yy (SqL.of g4)
      rw [List.getElem?_map, List.getElem?_eq_getElem hi] at hxx
      cases hxx
      have hym := List.getElem_mem hi
      have hyr : (pairL (PP P0 R0))[i]? = some (ls[i].2.map (·.2)) := by rw [← es3, List.getElem?_map, List.getElem?_eq_getElem hi]; rfl
      have R4 := (rw4 _ hym).1
      generalize ls[i] = y at hym hyr R4
      obtain ⟨row, hrow⟩ : ∃ row, row = y.2.map (·.2) := ⟨_, rfl⟩
      rw [← hrow] at hyr
      have hrm := List.mem_of_getElem? hyr
      have hrl : y.2.length ≤ 4 := by
        have z := pairL_row hrm
        rw [hrow, List.length_map] at z
        unfold PP at z
        rw [List.length_map] at z
        omega
      have hrk : (row.map (·.1)).Nodup := by
        have z := pairL_keys hrm
        rw [PP_keys] at z
        exact (nd_pts hP.nd).sublist z
      obtain ⟨c, hc⟩ : ∃ c, c = i * 625 := ⟨_, rfl⟩
      rw [← hc] at hl4
      repeat walk_at "E"
      refine d_dict_lst (SqL.of R4.1) (rw_prv R4.2) (small (by rw [pKV_len, List.length_map]; omega)) (fun e ne => ?_)
      rw [← hrow, putsK_nd (nd_pKV' hrk)]
      obtain ⟨H5, e5, f5, m5, _⟩ := new_at (o := .dK (pKV row)) ne
      change tNil _ (upd H4 e (.dK (pKV row))) _
      rw [e5]
      have s5 := s4.trans m5
      have P5 := hP.same s5
      have Q5 := hR.same s5
      repeat walk_at "E"
      refine ⟨a, p, q, a', p', q', e, kvs, kvs', P0, R0, row, rfl, P5, Q5, n2, f5, (ne_of_none (hP.same s4).hq ne).symm, fun d2 kv2 H6 nd6 m6 f6 pt6 => ?_⟩
      repeat walk_at "E"
      refine ⟨d2, kv2, TP P0 R0 row, rfl, f6, pt6, by unfold TP; rw [List.length_map]; exact lp2, TP_bd lr2, fun lT zs H7 n7 m7 f7 rw7 es7 => ?_⟩
      have m47 := m5.trans (m6.trans m7)
      have s7 := s4.trans m47
      have t7 := m47 _ _ t4
      have nTd : lT ≠ ld := fun z => by rw [z, (m5.trans m6) _ _ t4] at n7; cases n7
      have zsl : zs.length ≤ 625 := by
        have z := congrArg List.length es7
        rw [List.length_map] at z
        rw [z]
        exact pairL_625 (by unfold TP; rw [List.length_map]; exact lp2) (TP_bd lr2)
      refine r_it_lst (SqL.of f7) ?_
      refine for2_b (n := zs.length) (fun j σ H' => Same H H' ∧ H' lP = some (.lst (ls.map fun x => V.ref x.1)) ∧ (∀ x ∈ ls, RwAt K H' x ∧ x.1 ≠ ld) ∧ (∃ v4, σ = [some (.ref a), some (.ref a'), some (.ref ld), some (.ref y.1), v4]) ∧ H' lT = some (.lst (zs.map fun x => V.ref x.1)) ∧ (∀ x ∈ zs, RwAt K H' x ∧ x.1 ≠ ld) ∧ ∃ tl : List LsT, H' ld = some (.lst (tl.map fun x => V.ref x.1)) ∧ (∀ x ∈ tl, RwAt K H' x ∧ x.1 ≠ ld ∧ H x.1 = none) ∧ Paired OvR tl ((((pairL (PP P0 R0)).take i).flatMap fun a => (pairL (TP P0 R0 a)).map fun b => a ++ b) ++ ((pairL (TP P0 R0 row)).take j).map fun b => row ++ b) ∧ tl.length ≤ c + j) ⟨s7, m47 _ _ g4, fun x hx => ⟨(rw4 x hx).1.same m47, (rw4 x hx).2⟩, ⟨_, rfl⟩, f7, fun x hx => ⟨(rw7 x hx).1, fun z => by have y := (rw7 x hx).2; rw [z, (m5.trans m6) _ _ t4] at y; cases y⟩, tl, t7, fun x hx => ⟨(rt4 x hx).1.same m47, (rt4 x hx).2⟩, by rw [List.take_zero, List.map_nil, List.append_nil]; exact pr4, hl4⟩ (fun j σ H' hj hp => ⟨_, .ref zs[j].1, SqL.of hp.2.2.2.2.1, by rw [List.getElem?_map, List.getElem?_eq_getElem hj]; rfl⟩) ?_ ?_
      · rintro bk2 j v σ H8' H8 hj ⟨s8, g8, rw8, ⟨v4, rfl⟩, h8, rz8, tl, t8, rt8, pr8, hl8⟩ yy
        obtain ⟨rfl, hxx⟩ := Itl.get yy (SqL.of h8)
        rw [List.getElem?_map, List.getElem?_eq_getElem hj] at hxx
        cases hxx
        have hzm := List.getElem_mem hj
        have hzr : (pairL (TP P0 R0 row))[j]? = some (zs[j].2.map (·.2)) := by rw [← es7, List.getElem?_map, List.getElem?_eq_getElem hj]; rfl
        have Z8 := (rz8 _ hzm).1
        generalize zs[j] = z at hzm hzr Z8
        have hzl : z.2.length ≤ 4 := by
          have w := pairL_row (List.mem_of_getElem? hzr)
          rw [List.length_map] at w
          unfold TP at w
          rw [List.length_map] at w
          omega
        have Y8 := (rw8 _ hym).1
        repeat walk_at "E"
        refine ⟨.inl ⟨rfl, _, SqL.of t8⟩, ?_⟩
        repeat walk_at "E"
        refine r_cat Y8.1 Z8.1 (small (by rw [List.length_map, List.length_map]; omega)) (fun lc nc => ?_)
        rw [← List.map_append]
        obtain ⟨H9, e9, f9, m9, _⟩ := new_at (o := .lst ((y.2 ++ z.2).map fun t => V.ref t.1)) nc
        rw [e9]
        repeat walk_at "E"
        refine r_srt (SqL.of f9) (fun t ht => ?_) (by rw [List.length_append]; omega) (fun us pm sr lo no => ?_)
        · rcases List.mem_append.mp ht with w | w
          · exact m9.tup (Y8.2 t w)
          · exact m9.tup (Z8.2 t w)
        obtain ⟨HA, eA, fA, mA, _⟩ := new_at (o := .lst (us.map fun t => V.ref t.1)) no
        rw [eA]
        have m8A := m9.trans mA
        have tA := m8A _ _ t8
        have oA : RwAt K HA (lo, us) := ⟨fA, fun t ht => by
          rcases List.mem_append.mp (pm.mem_iff.mp ht) with w | w
          · exact m8A.tup (Y8.2 t w)
          · exact m8A.tup (Z8.2 t w)⟩
        have nod : lo ≠ ld := (ne_of_none (m9 _ _ t8) no).symm
        repeat walk_at "E"
        refine ⟨ld, _, _, rfl, rfl, tA, Nat.lt_of_le_of_lt (m := 9000000) (by rw [List.length_map]; omega) (by decide), ?_⟩
        repeat walk_at "E"
        refine ⟨sUpd0 (s8.trans m8A) nld, by rw [upd_ne nPd]; exact m8A _ _ g8, fun x hx => ⟨((rw8 x hx).1.same m8A).upd tA (rw8 x hx).2, (rw8 x hx).2⟩, ⟨_, rfl⟩, by rw [upd_ne nTd]; exact m8A _ _ h8, fun x hx => ⟨((rz8 x hx).1.same m8A).upd tA (rz8 x hx).2, (rz8 x hx).2⟩, tl ++ [(lo, us)], by rw [upd_same, List.map_append]; rfl, fun x hx => ?_, ?_, by rw [List.length_append, List.length_singleton]; omega⟩
        · rcases List.mem_append.mp hx with w | w
          · exact ⟨((rt8 x w).1.same m8A).upd tA (rt8 x w).2.1, (rt8 x w).2⟩
          · rw [List.mem_singleton.mp w]
            exact ⟨oA.upd tA nod, nod, (s8.trans m9).free no⟩
        · rw [take_snoc' hzr, List.map_append, ← List.append_assoc]
          refine paired_snoc pr8 ⟨?_, sr⟩
          show (us.map (·.2)).Perm (row ++ z.2.map (·.2))
          rw [hrow, ← List.map_append]
          exact pm.map _
      · rintro σ H8 ⟨s8, g8, rw8, ⟨v4, rfl⟩, h8, rz8, tl, t8, rt8, pr8, hl8⟩
        refine ⟨⟨_, SqL.of h8, by rw [List.length_map]; exact Nat.le_refl _⟩, ?_⟩
        have ez : (pairL (TP P0 R0 row)).length = zs.length := by rw [← es7, List.length_map]
        rw [List.take_of_length_le (l := pairL (TP P0 R0 row)) (i := zs.length) (by rw [ez]; exact Nat.le_refl _)] at pr8
        refine ⟨s8, g8, rw8, ⟨_, _, rfl⟩, tl, t8, rt8, ?_, by omega⟩
        rw [take_snoc' hyr, List.flatMap_append, List.flatMap_singleton]
        exact pr8
    rintro σ H4 ⟨s4, g4, rw4, ⟨v3, v4, rfl⟩, tl, t4, rt4, pr4, hl4⟩
    refine ⟨⟨_, SqL.of g4, by rw [List.length_map]; exact Nat.le_refl _⟩, ?_⟩
    have ez : (pairL (PP P0 R0)).length = ls.length := by rw [← es3, List.length_map]
    rw [List.take_of_length_le (by omega)] at pr4
    refine hx _ _ ?_
    repeat walk_at "R"
    refine ⟨ld, tl, rfl, SqL.of t4, fun l hl => ⟨SqL.of (rt4 l hl).1.1, (rt4 l hl).1.2⟩, fun tl' pm ris l nl => ?_⟩
    obtain ⟨H5, e5, f5, m5, _⟩ := new_at (H := H4) (o := .lst (tl'.map fun x => V.ref x.1)) nl
    change Q _ (upd H4 l (.lst (tl'.map fun x => V.ref x.1)))
    rw [e5]
    exact k l tl' tl H5 (s4.free nl) (s4.trans m5) f5 (fun x hx => ⟨(rt4 x (pm.mem_iff.mp hx)).1.same m5, ne_of_none (rt4 x (pm.mem_iff.mp hx)).1.1 nl, (rt4 x (pm.mem_iff.mp hx)).2.2⟩) ris pm pr4
def sp__law_may (K : PySem.W.Frag) : Sp := fun vs H Q _ => ∃ (a p q a' p' q' d : Addr) (kvs kvs' : List (Key × V)) (P R : Web) (us : List (Str × Str)) (n t : Str), vs = [.ref a, .ref a', .ref d, .str n, .str t] ∧ WebAt K H a p q kvs P ∧ (nmsW P).Nodup ∧ WebAt K H a' p' q' kvs' R ∧ (nmsW R).Nodup ∧ H d = some (.dK (pKV us)) ∧ (us.map (·.1)).Nodup ∧ n ∉ us.map (·.1) ∧ n ∈ nmsW P ∧ us.length ≤ 30 ∧ ∀ H' b, Same H H' → (b = true ↔ t ∉ us.map (·.2) ∧ WP P R (us ++ [(n, t)]) (n, t)) → Q (.bl b) H'
abbrev C__law_may (P : Program) (w : World) (K : PySem.W.Frag) (mg : Str → Option Value) (base : Heap) : Prop := Cal P w K mg base CX0 2 "_law_may" ["_law_piece_here", "_law_other", "_law_there", "_law_name", "_law_to"] [] (sp__law_may K)
theorem ok__law_may {f : Addr} {fd : FuncData} (T : Txt K mg) (c__law_fits : C__law_fits P w K mg base) (F : Fun K "_law_may" "_law_may" s__law_may f fd) : FnOk P w K mg base CX0 2 f fd ["_law_piece_here", "_law_other", "_law_there", "_law_name", "_law_to"] (sp__law_may K) := by
  refine F.ok sc__law_may (fun vs H Q E h => ?_) (fun cdv A outer s H vs Q E hr h => ?_)
  · obtain ⟨a, p, q, a', p', q', d, kvs, kvs', P0, R, us, n, t, rfl, _⟩ := h
    rfl
  · obtain ⟨a, p, q, a', p', q', d, kvs, kvs', P0, R, us, n, t, rfl, hP, ndP, hR, ndR, hd, nk, hn, hin, hl, k⟩ := h
    have hN := sc__law_may.nd
    have hu := hu_le hr
    refine ⟨_, QSs.r (qsC (qSet (i := 5) hN rfl (by first | exact Or.inl rfl | exact Or.inr rfl) (qBT (kDict K rfl) T.b_dict Boot.«dict» (qa1 (qV 2) qa0)))
      (qsC (qAsg (qV 4) (qgS (qV 5) (qV 3) (set_wideP P w hu)))
      (qs1 (qRet (qAnd (qCmp (kNotIn K hu) (qV 4) (qBT (kListV K rfl) T.b_list Boot.«list» (qa1 (qM0 PySem.F.plainAttrs_dict PySem.F.slot_dict_values PySem.F.type_dict_values mt_dict_values0 K (qV 2)) qa0)) (by rfl)) (qOne (qC c__law_fits (hr.mono (by decide)) pass0 (qa1 (qV 0) (qa1 (qV 1) (qa1 (qV 5) (qa1 (qV 3) qa0))))))))))), ?_⟩
    repeat walk_at "R"
    refine d_dict_dic (.inl hd) (fun dm ndm => ?_)
    obtain ⟨H1, e1, f1, m1, _⟩ := new_at (o := .dK (pKV us)) ndm
    rw [e1]
    repeat walk_at "R"
    refine s_set (r_set_dic (k := Sum.inr n) f1 (small (by rw [pKV_len]; omega)) ?_)
    rw [put_pKV hn]
    have s2 : Same H (upd H1 dm (.dK (pKV (us ++ [(n, t)])))) := sUpd0 m1 ndm
    have f2 : (upd H1 dm (.dK (pKV (us ++ [(n, t)])))) dm = some (.dK (pKV (us ++ [(n, t)]))) := upd_same
    generalize upd H1 dm (.dK (pKV (us ++ [(n, t)]))) = H2 at s2 f2 ⊢
    have fd := s2 _ _ hd
    repeat walk_at "R"
    refine ⟨.inr (.inr (.inl ⟨rfl, .inl ⟨_, fd⟩⟩)), ?_⟩
    refine ⟨d, _, rfl, rfl, .inl fd, fun lv nv => ?_⟩
    obtain ⟨H4, e4, f4, m4, _⟩ := new_at (o := .ext (IsVV lv d)) nv
    rw [e4]
    repeat walk_at "R"
    refine v_list_vals f4 (.inl (m4 _ _ fd)) (fun l5 n5 => ?_)
    rw [vals_pKV]
    obtain ⟨H5, e5, f5, m5, _⟩ := new_at (o := .lst ((us.map (·.2)).map V.str)) n5
    rw [e5]
    have s5 := s2.trans (m4.trans m5)
    refine notIn_strs (SqL.of f5) ?_
    repeat walk_at "R"
    refine r_iteN (fun z => ?_) (fun z => ?_)
    · repeat walk_at "R"
      refine ⟨a, p, q, a', p', q', dm, kvs, kvs', P0, R, us ++ [(n, t)], (n, t), rfl, hP.mono s5.le, ndP, hR.mono s5.le, ndR, .inl (m5 _ _ (m4 _ _ f2)), ?_, by simp, hin, fun H6 b m6 hb => k H6 b (s5.trans m6) ?_⟩
      · rw [List.map_append]; exact nd_snoc nk hn
      · rw [hb]; exact ⟨fun h => ⟨z, h⟩, fun h => h.2⟩
    · repeat walk_at "R"
      exact k H5 false s5 ⟨fun h => (nomatch h), fun h => absurd z h.1⟩
open Classical in
noncomputable def mayB (P R : Web) (D : List PrS) (n t : Str) : Bool := decide (t ∉ D.map (·.2) ∧ WP P R (D ++ [(n, t)]) (n, t))
open Classical in
theorem mayB_iff {P R : Web} {D : List PrS} {n t : Str} : mayB P R D n t = true ↔ t ∉ D.map (·.2) ∧ WP P R (D ++ [(n, t)]) (n, t) := by
  unfold mayB
  exact decide_eq_true_iff
noncomputable def enumL (P R : Web) (as : List Str) : List Str → List PrS → List (List PrS)
  | [], D => [D]
  | n :: ns, D => enumL P R as ns D ++ (as.filter (mayB P R D n)).flatMap fun t => enumL P R as ns (D ++ [(n, t)])
theorem cut_tl (x : V) (xs : List V) : cutV (x :: xs) (some 1) none = xs := by
  unfold cutV
  have e1 : HT.sIx (x :: xs).length 0 (some ((1 : Nat) : Int)) = min 1 (x :: xs).length := HT.sIx_nat _ _ _
  have e2 : HT.sIx (x :: xs).length (x :: xs).length none = (x :: xs).length := rfl
  rw [show (some (1 : Int)) = some ((1 : Nat) : Int) from rfl, e1, e2]
  simp
def sp__law_count (K : PySem.W.Frag) (m : Nat) : Sp := fun vs H Q _ => ∃ (a p q a' p' q' l d : Addr) (kvs kvs' : List (Key × V)) (P R : Web) (ns : List Str) (D : List PrS), vs = [.ref a, .ref a', .ref l, .ref d] ∧ WebAt K H a p q kvs P ∧ (nmsW P).Nodup ∧ WebAt K H a' p' q' kvs' R ∧ (nmsW R).Nodup ∧ (nmsW R).length ≤ 60 ∧ SqL K H l (ns.map V.str) ∧ H d = some (.dK (pKV D)) ∧ (D.map (·.1) ++ ns).Nodup ∧ (∀ n ∈ ns, n ∈ nmsW P) ∧ D.length + ns.length ≤ 20 ∧ ns.length < m ∧ ∀ H', Same H H' → Q (.int ((enumL P R (nmsW R) ns D).length : Nat)) H'
theorem no__law_count (K : PySem.W.Frag) : ∀ vs H Q E, ¬ sp__law_count K 0 vs H Q E := fun vs H Q E h => by
  obtain ⟨_, _, _, _, _, _, _, _, _, _, _, _, _, _, _, _, _, _, _, _, _, _, _, _, _, z, _⟩ := h
  exact Nat.not_lt_zero _ z
set_option maxHeartbeats 4000000 in
abbrev C__law_count (P : Program) (w : World) (K : PySem.W.Frag) (mg : Str → Option Value) (base : Heap) : Prop := Cal P w K mg base CX0 9 "_law_count" ["_law_piece_here", "_law_other", "_law_names_here", "_law_there"] [] (sp__law_count K 7)
theorem ok0__law_count {f : Addr} {fd : FuncData} (F : Fun K "_law_count" "_law_count" s__law_count f fd) (z : ∀ vs H Q E, ¬ sp__law_count K 0 vs H Q E) : FnOk P w K mg base CX0 2 f fd ["_law_piece_here", "_law_other", "_law_names_here", "_law_there"] (sp__law_count K 0) := F.ok sc__law_count (fun vs H Q E h => (z _ _ _ _ h).elim) (fun cdv A outer s H vs Q E hr h => (z _ _ _ _ h).elim)
theorem ok__law_count {m9 : Nat} {f : Addr} {fd : FuncData} (T : Txt K mg) (c__law_count : Cal P w K mg base CX0 (2 + m9) "_law_count" ["_law_piece_here", "_law_other", "_law_names_here", "_law_there"] [] (sp__law_count K m9)) (c__law_all : C__law_all P w K mg base) (c__law_may : C__law_may P w K mg base) (F : Fun K "_law_count" "_law_count" s__law_count f fd) : FnOk P w K mg base CX0 (2 + m9 + 1) f fd ["_law_piece_here", "_law_other", "_law_names_here", "_law_there"] (sp__law_count K (m9 + 1)) := by
  refine F.ok sc__law_count (fun vs H Q E h => ?_) (fun cdv A outer s H vs Q E hr h => ?_)
  · obtain ⟨a, p, q, a', p', q', l, d, kvs, kvs', P0, R, ns, D, rfl, _⟩ := h
    rfl
  · obtain ⟨a, p, q, a', p', q', l, d, kvs, kvs', P0, R, ns, D, rfl, hP, ndP, hR, ndR, hRl, hL, hd, nd, hin, hDl, hm, k⟩ := h
    have hN := sc__law_count.nd
    have hu := hu_le hr
    refine ⟨_, QSs.r (qsC (qIf (qtCmp (kEqW8 K hr) (qB (kLenP K P w) T.b_len Boot.«len» (qa1 (qV 2) qa0)) qInt (nomark _)) (qs1 (qRet qInt)) qs0)
      (qsC (qSet (i := 4) hN rfl (by first | exact Or.inl rfl | exact Or.inr rfl) (qC c__law_count (hr.mono (by omega)) pass0 (qa1 (qV 0) (qa1 (qV 1) (qa1 (qSl (kSl K) (qV 2) (qoS qInt) qoN) (qa1 (qV 3) qa0))))))
      (qsC (qFor PassesOwn.never rfl (qiIt K (qC c__law_all (hr.mono (by omega)) pass0 (qa1 (qV 1) qa0))) (qgN (i := 5) hN rfl (by first | exact Or.inl rfl | exact Or.inr rfl))
        (qs1 (qIf (qtTru K (qC c__law_may (hr.mono (by omega)) pass0 (qa1 (qV 0) (qa1 (qV 1) (qa1 (qV 3) (qa1 (qIx (kIx K hu) (qV 2) qInt (fun _ _ => rfl)) (qa1 (qV 5) qa0))))))) (qsC (qSet (i := 6) hN rfl (by first | exact Or.inl rfl | exact Or.inr rfl) (qBT (kDict K rfl) T.b_dict Boot.«dict» (qa1 (qV 3) qa0)))
      (qsC (qAsg (qV 5) (qgS (qV 6) (qIx (kIx K hu) (qV 2) qInt (fun _ _ => rfl)) (set_wideP P w hu)))
      (qs1 (qSet (i := 4) hN rfl (by first | exact Or.inl rfl | exact Or.inr rfl) (qOp (kAdd K) (qV 4) (qC c__law_count (hr.mono (by omega)) pass0 (qa1 (qV 0) (qa1 (qV 1) (qa1 (qSl (kSl K) (qV 2) (qoS qInt) qoN) (qa1 (qV 6) qa0)))))))))) qs0)))
      (qs1 (qRet (qV 4)))))), ?_⟩
    repeat walk_at "R"
    refine l_len (r_len_lst hL ?_)
    rw [List.length_map]
    repeat walk_at "R"
    refine r_ite (fun z => ?_) (fun z => ?_)
    · have e : ns = [] := List.eq_nil_of_length_eq_zero (by omega)
      subst e
      repeat walk_at "R"
      exact k H (Same.refl H)
    · obtain ⟨n, ns', rfl⟩ : ∃ n ns', ns = n :: ns' := by
        cases ns with
        | nil => exact absurd rfl z
        | cons n ns' => exact ⟨n, ns', rfl⟩
      rw [List.length_cons] at hm hDl
      have nd2 := List.nodup_append.mp nd
      have hnD : n ∉ D.map (·.1) := fun m => nd2.2.2 n m n List.mem_cons_self rfl
      have nk : (D.map (·.1)).Nodup := nd2.1
      have ndn := List.nodup_cons.mp nd2.2.1
      have nd0 : (D.map (·.1) ++ ns').Nodup := List.nodup_append.mpr ⟨nk, ndn.2, fun x hx y hy => nd2.2.2 x hx y (List.mem_cons_of_mem _ hy)⟩
      repeat walk_at "R"
      refine r_sl_lst hL (fun l1 n1 => ?_)
      rw [List.map_cons, cut_tl]
      obtain ⟨H1, e1, f1, m1, _⟩ := new_at (o := .lst (ns'.map V.str)) n1
      rw [e1]
      repeat walk_at "R"
      refine ⟨a, p, q, a', p', q', l1, d, kvs, kvs', P0, R, ns', D, rfl, hP.mono m1.le, ndP, hR.mono m1.le, ndR, hRl, SqL.of f1, m1 _ _ hd, nd0, fun x hx => hin x (List.mem_cons_of_mem _ hx), by omega, by omega, fun H2 m2 => ?_⟩
      have s2' := m1.trans m2
      repeat walk_at "R"
      refine ⟨a', p', q', kvs', R, rfl, hR.mono s2'.le, hRl, fun l3 H3 u1 u2 n3 m3 f3 o3 => ?_⟩
      have s3 := s2'.trans m3
      have pm := o3.perm
      clear o3
      generalize u1 ++ u2 = as at f3 pm
      have pmf : (enumL P0 R (nmsW R) ns' D ++ (as.filter (mayB P0 R D n)).flatMap fun t => enumL P0 R (nmsW R) ns' (D ++ [(n, t)])).length = (enumL P0 R (nmsW R) (n :: ns') D).length := (List.Perm.append_left _ ((pm.filter _).flatMap_right _)).length_eq
      repeat walk_at "R"
      refine r_it_lst (SqL.of f3) ?_
      refine for2_b (n := as.length) (fun i σ H' => Same H3 H' ∧ ∃ v5 v6, σ = [some (.ref a), some (.ref a'), some (.ref l), some (.ref d), some (.int ((enumL P0 R (nmsW R) ns' D ++ ((as.take i).filter (mayB P0 R D n)).flatMap fun t => enumL P0 R (nmsW R) ns' (D ++ [(n, t)])).length : Nat)), v5, v6])
        ⟨Same.refl _, _, _, by rw [List.take_zero, List.filter_nil, List.flatMap_nil, List.append_nil]; rfl⟩ (fun i σ H' hi hp => ⟨_, .str as[i], SqL.of (hp.1 _ _ f3), by rw [List.getElem?_map, List.getElem?_eq_getElem hi]; rfl⟩) ?_ ?_
      · rintro bk i v σ H4' H4 hi ⟨m4, v5, v6, rfl⟩ yy
        obtain ⟨rfl, hxx⟩ := Itl.get yy (SqL.of (m4 _ _ f3))
        rw [List.getElem?_map, List.getElem?_eq_getElem hi] at hxx
        cases hxx
        have et : as.take (i + 1) = as.take i ++ [as[i]] := take_snoc' (List.getElem?_eq_getElem hi)
        generalize as[i] = t at et
        have s4 := s3.trans m4
        repeat walk_at "R"
        refine r_ix_lst (s4.seq hL) (atI_nat (j := 0) rfl) ?_
        repeat walk_at "R"
        refine ⟨a, p, q, a', p', q', d, kvs, kvs', P0, R, D, n, t, rfl, hP.mono s4.le, ndP, hR.mono s4.le, ndR, s4 _ _ hd, nk, hnD, hin n List.mem_cons_self, by omega, fun H5 b m5 hb => ?_⟩
        have s5 := s4.trans m5
        have eb : mayB P0 R D n t = b := Bool.eq_iff_iff.mpr (mayB_iff.trans hb.symm)
        repeat walk_at "R"
        refine r_iteB (fun hb1 => ?_) (fun hb1 => ?_)
        · repeat walk_at "R"
          refine d_dict_dic (.inl (s5 _ _ hd)) (fun dm ndm => ?_)
          obtain ⟨H6, e6, f6, m6, _⟩ := new_at (o := .dK (pKV D)) ndm
          rw [e6]
          repeat walk_at "R"
          refine r_ix_lst ((s5.trans m6).seq hL) (atI_nat (j := 0) rfl) ?_
          refine s_set (r_set_dic (k := Sum.inr n) f6 (small (by rw [pKV_len]; omega)) ?_)
          rw [put_pKV hnD]
          have m7 : Same H3 (upd H6 dm (.dK (pKV (D ++ [(n, t)])))) := sUpd0 ((m4.trans m5).trans m6) ((m4.trans m5).free ndm)
          have f7 : (upd H6 dm (.dK (pKV (D ++ [(n, t)])))) dm = some (.dK (pKV (D ++ [(n, t)]))) := upd_same
          generalize upd H6 dm (.dK (pKV (D ++ [(n, t)]))) = H7 at m7 f7 ⊢
          have s7 := s3.trans m7
          repeat walk_at "R"
          refine r_sl_lst (s7.seq hL) (fun l8 n8 => ?_)
          rw [List.map_cons, cut_tl]
          obtain ⟨H8, e8, f8, m8, _⟩ := new_at (o := .lst (ns'.map V.str)) n8
          rw [e8]
          have s8 := s7.trans m8
          repeat walk_at "R"
          refine ⟨a, p, q, a', p', q', l8, dm, kvs, kvs', P0, R, ns', D ++ [(n, t)], rfl, hP.mono s8.le, ndP, hR.mono s8.le, ndR, hRl, SqL.of f8, m8 _ _ f7, ?_, fun x hx => hin x (List.mem_cons_of_mem _ hx), by rw [List.length_append, List.length_singleton]; omega, by omega, fun H9 m9' => ?_⟩
          · rw [List.map_append, List.append_assoc]; exact nd
          repeat walk_at "R"
          refine ⟨(m7.trans m8).trans m9', some (.str t), some (.ref dm), ?_⟩
          have el : (enumL P0 R (nmsW R) ns' D ++ ((as.take (i + 1)).filter (mayB P0 R D n)).flatMap fun t => enumL P0 R (nmsW R) ns' (D ++ [(n, t)])).length = (enumL P0 R (nmsW R) ns' D ++ ((as.take i).filter (mayB P0 R D n)).flatMap fun t => enumL P0 R (nmsW R) ns' (D ++ [(n, t)])).length + (enumL P0 R (nmsW R) ns' (D ++ [(n, t)])).length := by
            rw [et, List.filter_append, List.flatMap_append, show [t].filter (mayB P0 R D n) = [t] by rw [List.filter_cons, eb, hb1]; rfl, List.flatMap_singleton, ← List.append_assoc]
            exact List.length_append
          rw [el, Int.natCast_add]
          rfl
        · repeat walk_at "R"
          refine ⟨m4.trans m5, some (.str t), v6, ?_⟩
          rw [et, List.filter_append, List.flatMap_append, show [t].filter (mayB P0 R D n) = [] by rw [List.filter_cons, eb, hb1]; rfl, List.flatMap_nil, List.append_nil]
          rfl
      · rintro σ H4 ⟨m4, v5, v6, rfl⟩
        refine ⟨⟨_, SqL.of (m4 _ _ f3), by rw [List.length_map]; exact Nat.le_refl _⟩, ?_⟩
        rw [List.take_length, pmf]
        repeat walk_at "R"
        exact k _ (s3.trans m4)
theorem EqN.of0 {H : Hp} {x y : V} {b : Bool} (h : EqN K H 0 x y b) : ∀ n, EqN K H n x y b
  | 0 => h
  | n + 1 => .inl (EqN.of0 h n)
theorem all_rep (n : Nat) : (List.replicate n true).all id = true := by rw [List.all_eq_true]; intro b hb; exact (List.mem_replicate.mp hb).2
theorem els_rep {H : Hp} {xs ys : List V} {n : Nat} (pr : Paired (fun x y => EqN K H n x y true) xs ys) (j : Nat) (x y : V) (b : Bool) (h1 : xs[j]? = some x) (h2 : ys[j]? = some y) (h3 : (List.replicate xs.length true)[j]? = some b) : EqN K H n x y b := by
  have e3 : b = true := (List.mem_replicate.mp (List.mem_of_getElem? h3)).2
  subst e3
  obtain ⟨y', hy', z⟩ := paired_get pr h1
  rw [h2] at hy'
  cases hy'
  exact z
theorem eqN_sq {H : Hp} {a c : Addr} {xs ys : List V} {n : Nat} (hs : (SqT K H a xs ∧ SqT K H c ys) ∨ (SqL K H a xs ∧ SqL K H c ys)) (pr : Paired (fun x y => EqN K H n x y true) xs ys) : EqN K H (n + 1) (.ref a) (.ref c) true := by
  by_cases e : a = c
  · exact EqN.of0 (.inr ⟨a, c, rfl, rfl, .inl ⟨e, rfl⟩⟩) _
  · exact .inr ⟨a, c, xs, ys, List.replicate xs.length true, rfl, rfl, e, hs, Paired.length pr, List.length_replicate, els_rep pr, (all_rep _).symm⟩
theorem sqN_sq {H : Hp} {a c : Addr} {xs ys : List V} (hs : (SqT K H a xs ∧ SqT K H c ys) ∨ (SqL K H a xs ∧ SqL K H c ys)) (pr : Paired (fun x y => EqN K H 8 x y true) xs ys) : SqN K H (.ref a) (.ref c) (List.replicate xs.length true) :=
  ⟨a, c, xs, ys, rfl, rfl, hs, Paired.length pr, List.length_replicate, els_rep pr⟩
theorem eqN_str {H : Hp} (i : Str) (n : Nat) : EqN K H n (.str i) (.str i) true := by
  refine EqN.of0 (.inl ?_) n
  have z := Eq1.flat (K := K) (H := H) (x := .str i) (y := .str i) rfl rfl
  rw [eqV_refl rfl] at z; exact z
theorem srp_uniq {a b : List PrS} (h1 : SrP a) (h2 : SrP b) (p : a.Perm b) : a = b :=
  List.Perm.eq_of_pairwise (le := fun a b => ¬ keyP [b] < keyP [a]) (fun x y _ _ g1 g2 => (List.cons.inj (keyP_inj (kt_anti g2 g1))).1) h1 h2 p
structure IsO (P R : Web) (ps : List PrS) : Prop where
  nk : (ps.map (·.1)).Nodup
  nv : (ps.map (·.2)).Nodup
  wp : ∀ x ∈ ps, WP P R ps x
theorem srp_lt {ps : List PrS} (h : SrP ps) (nk : (ps.map (·.1)).Nodup) : ps.Pairwise fun a b => L2.ltP a b = true := by
  have n2 : ps.Pairwise fun a b => a ≠ b := List.Pairwise.imp (fun {a b} z e => z (by rw [e])) (List.pairwise_map.mp nk)
  refine List.Pairwise.imp (fun {a b} z => ?_) (h.and n2)
  refine decide_eq_true (Classical.byContradiction fun y => z.2 ?_)
  exact (List.cons.inj (keyP_inj (kt_anti y z.1))).1
def sp__law_right (K : PySem.W.Frag) : Sp := fun vs H Q _ => ∃ (x : LsT) (a p q a' p' q' : Addr) (kvs kvs' : List (Key × V)) (P R : Web), vs = [.ref x.1, .ref a, .ref a'] ∧ RwAt K H x ∧ x.2.length ≤ 20 ∧ WebAt K H a p q kvs P ∧ (nmsW P).Nodup ∧ (nmsW P).length ≤ 60 ∧ WebAt K H a' p' q' kvs' R ∧ (nmsW R).Nodup ∧ SrP (x.2.map (·.2)) ∧ IsO P R (x.2.map (·.2)) ∧ ∀ H', Same H H' → Q (.bl true) H'
set_option maxHeartbeats 4000000 in
abbrev C__law_right (P : Program) (w : World) (K : PySem.W.Frag) (mg : Str → Option Value) (base : Heap) : Prop := Cal P w K mg base CX0 2 "_law_right" ["_law_found", "_law_piece_here", "_law_other"] [] (sp__law_right K)
theorem ok__law_right {f : Addr} {fd : FuncData} (T : Txt K mg) (c__law_all : C__law_all P w K mg base) (c__law_fits : C__law_fits P w K mg base) (F : Fun K "_law_right" "_law_right" s__law_right f fd) : FnOk P w K mg base CX0 2 f fd ["_law_found", "_law_piece_here", "_law_other"] (sp__law_right K) := by
  refine F.ok sc__law_right (fun vs H Q E h => ?_) (fun cdv A outer s H vs Q E hr h => ?_)
  · obtain ⟨x, a, p, q, a', p', q', kvs, kvs', P0, R, rfl, _⟩ := h
    rfl
  · obtain ⟨x, a, p, q, a', p', q', kvs, kvs', P0, R, rfl, hX, hxl, hP, ndP, hPl, hR, ndR, hS, hO, k⟩ := h
    have hlt := srp_lt hS hO.nk
    have hN := sc__law_right.nd
    have hu := hu_le hr
    refine ⟨_, QSs.r (qsC (qIf (qtNot (qtTru K (qB (kIsiP K P w) T.b_isinstance Boot.«isinstance» (qa1 (qV 0) (qa1 (qTy "list" T.b_list Boot.«list») qa0))))) (qs1 (qRet qBl)) qs0)
      (qsC (qSet (i := 3) hN rfl (by first | exact Or.inl rfl | exact Or.inr rfl) qD0)
      (qsC (qFor PassesOwn.never rfl (qiR1 T.b_range (qa1 (qB (kLenP K P w) T.b_len Boot.«len» (qa1 (qV 0) qa0)) qa0)) (qgN (i := 4) hN rfl (by first | exact Or.inl rfl | exact Or.inr rfl))
        (qsC (qIf (qtW (qwOr (qtNot (qtTru K (qB (kIsiP K P w) T.b_isinstance Boot.«isinstance» (qa1 (qIx (kIx K hu) (qV 0) (qV 4) (fun _ _ => rfl)) (qa1 (qTy "tuple" T.b_tuple Boot.«tuple») qa0))))) (qwOr1 (qtCmp (kNeW8 K hr) (qB (kLenP K P w) T.b_len Boot.«len» (qa1 (qIx (kIx K hu) (qV 0) (qV 4) (fun _ _ => rfl)) qa0)) qInt (nomark _))))) (qs1 (qRet qBl)) qs0)
      (qsC (qAsg (qIx (kIx K hu) (qV 0) (qV 4) (fun _ _ => rfl)) (qgT K rfl (qg1 (qgN (i := 5) hN rfl (by first | exact Or.inl rfl | exact Or.inr rfl)) (qg1 (qgN (i := 6) hN rfl (by first | exact Or.inl rfl | exact Or.inr rfl)) qg0))))
      (qsC (qIf (qtW (qwOr (qtNot (qtTru K (qB (kIsiP K P w) T.b_isinstance Boot.«isinstance» (qa1 (qV 5) (qa1 (qTy "str" T.b_str Boot.«str») qa0))))) (qwOr (qtNot (qtTru K (qB (kIsiP K P w) T.b_isinstance Boot.«isinstance» (qa1 (qV 6) (qa1 (qTy "str" T.b_str Boot.«str») qa0))))) (qwOr1 (qtW (qwAnd (qtCmp op_gt (qV 4) qInt (nomark _)) (qwAnd1 (qtCmp (kGeP K hr) (qIx (kIx K hu) (qV 0) (qOp op_sub (qV 4) qInt) (fun _ _ => rfl)) (qIx (kIx K hu) (qV 0) (qV 4) (fun _ _ => rfl)) (nomark _))))))))) (qs1 (qRet qBl)) qs0)
      (qsC (qIf (qtW (qwOr (qtCmp (kIn K hu) (qV 5) (qV 3) (by rfl)) (qwOr (qtCmp (kNotIn K hu) (qV 5) (qC c__law_all (hr.mono (by decide)) pass0 (qa1 (qV 1) qa0)) (by rfl)) (qwOr1 (qtCmp (kIn K hu) (qV 6) (qBT (kListV K rfl) T.b_list Boot.«list» (qa1 (qM0 PySem.F.plainAttrs_dict PySem.F.slot_dict_values PySem.F.type_dict_values mt_dict_values0 K (qV 3)) qa0)) (by rfl)))))) (qs1 (qRet qBl)) qs0)
      (qs1 (qAsg (qV 6) (qgS (qV 3) (qV 5) (set_wideP P w hu)))))))))
      (qs1 (qRet (qB (kAll K rfl) T.b_all Boot.«all» (qa1 (qComp (own := ["_law_name"]) (js := [1, 2, 3]) (by kernel_rfl) rfl (qiIt K (qV 3)) (fun _ _ _ _ => (qgN (i := 0) (show List.Nodup (["_law_name", "_law_piece_here", "_law_other", "_law_there"] : List Str) by decide +kernel) rfl (by first | exact Or.inl rfl | exact Or.inr rfl))) (fun _ _ _ _ => qif0) (fun _ _ _ _ => (qC c__law_fits (hr.mono (by decide)) pass0 (qa1 (qV 1) (qa1 (qV 2) (qa1 (qV 3) (qa1 (qV 0) qa0))))))) qa0))))))), ?_⟩
    repeat walk_at "R"
    refine l_isi (r_isi (t := "list") (.inl ⟨rfl, _, SqL.of hX.1⟩) (by simp) ?_)
    rw [show isiB "list" "list" = true from rfl]
    repeat walk_at "R"
    intro d nd
    obtain ⟨H1, e1, f1, m1, _⟩ := new_at (o := .dK []) nd
    rw [e1]
    repeat walk_at "R"
    refine l_len (r_len_lst (SqL.of (m1 _ _ hX.1)) ?_)
    repeat walk_at "R"
    rw [List.length_map]
    refine r_rng1v (by omega) (by omega) ?_
    refine for2_b (n := x.2.length) (fun i σ H' => Same H H' ∧ H' d = some (.dK (pKV ((x.2.map (·.2)).take i))) ∧ ∃ v4 v5 v6, σ = [some (.ref x.1), some (.ref a), some (.ref a'), some (.ref d), v4, v5, v6])
      ⟨m1, f1, _, _, _, rfl⟩ (fun i σ H' hi _ => by show i < _; omega) ?_ ?_
    · rintro bk i v σ H2' H2 hi ⟨s2, f2, v4, v5, v6, rfl⟩ ⟨rfl, rfl⟩
      have X2 := hX.same s2
      have hgi : (x.2.map fun t => V.ref t.1)[i]? = some (.ref x.2[i].1) := by rw [List.getElem?_map, List.getElem?_eq_getElem hi]; rfl
      have hpi : (x.2.map (·.2))[i]? = some x.2[i].2 := by rw [List.getElem?_map, List.getElem?_eq_getElem hi]; rfl
      have hT := hX.2 _ (List.getElem_mem hi)
      generalize hy : x.2[i] = y at hgi hpi hT
      have T2 := s2.tup hT
      repeat walk_at "R"
      refine r_ix_lst (SqL.of X2.1) (i := 0 + (i : Int)) (by rw [Int.zero_add]; exact atI_nat (j := i) hgi) ?_
      repeat walk_at "R"
      refine l_isi (r_isi (t := "tuple") (.inr (.inl ⟨rfl, _, T2⟩)) (by simp) ?_)
      rw [show isiB "tuple" "tuple" = true from rfl]
      repeat walk_at "R"
      refine r_ix_lst (SqL.of X2.1) (i := 0 + (i : Int)) (by rw [Int.zero_add]; exact atI_nat (j := i) hgi) ?_
      repeat walk_at "R"
      refine l_len (r_len_tup T2 ?_)
      repeat walk_at "R"
      rw [if_neg (by simp)]
      repeat walk_at "R"
      refine r_ix_lst (SqL.of X2.1) (i := 0 + (i : Int)) (by rw [Int.zero_add]; exact atI_nat (j := i) hgi) ?_
      refine r_gTup T2 rfl ?_
      repeat walk_at "E"
      refine r_hide fun nx2 hx2 => ?_
      have hn : nx2 [some (.ref x.1), some (.ref a), some (.ref a'), some (.ref d), some (.int (0 + (i : Int))), some (.str y.2.1), some (.str y.2.2)] H2 := by
        refine hx2 _ _ ?_
        clear hx2
        repeat walk_at "R"
        have hnin : y.2.1 ∉ ((x.2.map (·.2)).take i).map (·.1) := fun m => by
          have z := (hO.nk.sublist ((List.take_sublist (i + 1) (x.2.map (·.2))).map (·.1)))
          rw [take_snoc' hpi, List.map_append] at z
          exact (List.nodup_append.mp z).2.2 _ m _ (by simp) rfl
        have hnin2 : y.2.2 ∉ ((x.2.map (·.2)).take i).map (·.2) := fun m => by
          have z := (hO.nv.sublist ((List.take_sublist (i + 1) (x.2.map (·.2))).map (·.2)))
          rw [take_snoc' hpi, List.map_append] at z
          exact (List.nodup_append.mp z).2.2 _ m _ (by simp) rfl
        have hinP : y.2.1 ∈ nmsW P0 := WP.inP (t := y.2.2) (hO.wp y.2 (List.mem_of_getElem? hpi))
        refine r_in_dic (dget (k := Sum.inr y.2.1) (.inl f2)) ?_
        rw [val_in_pts, decide_eq_false hnin]
        repeat walk_at "R"
        refine ⟨a, p, q, kvs, P0, rfl, hP.mono s2.le, hPl, fun l3 H3 u1 u2 n3 m3 f3 o3 => ?_⟩
        have s3 := s2.trans m3
        refine notIn_strs (SqL.of f3) ?_
        rw [decide_eq_true (o3.mem.mpr hinP)]
        repeat walk_at "R"
        have fd := m3 _ _ f2
        refine ⟨.inr (.inr (.inl ⟨rfl, .inl ⟨_, fd⟩⟩)), ?_⟩
        refine ⟨d, _, rfl, rfl, .inl fd, fun lv nv => ?_⟩
        obtain ⟨H4, e4, f4, m4, _⟩ := new_at (o := .ext (IsVV lv d)) nv
        rw [e4]
        repeat walk_at "R"
        refine v_list_vals f4 (.inl (m4 _ _ fd)) (fun l5 n5 => ?_)
        rw [vals_pKV]
        obtain ⟨H5, e5, f5, m5, _⟩ := new_at (o := .lst ((((x.2.map (·.2)).take i).map (·.2)).map V.str)) n5
        rw [e5]
        refine in_strs (SqL.of f5) ?_
        rw [decide_eq_false hnin2]
        repeat walk_at "R"
        refine s_set (r_set_dic (k := Sum.inr y.2.1) (m5 _ _ (m4 _ _ fd)) (small (by rw [pKV_len, List.length_take]; omega)) ?_)
        rw [put_pKV hnin]
        refine ⟨sUpd0 (s3.trans (m4.trans m5)) nd, ?_, _, _, _, rfl⟩
        rw [upd_same, take_snoc' hpi]
      clear hx2
      repeat walk_at "E"
      refine l_isi (r_isi (t := "str") rfl (by simp) ?_)
      rw [show isiB "str" "str" = true from rfl]
      repeat walk_at "E"
      refine l_isi (r_isi (t := "str") rfl (by simp) ?_)
      rw [show isiB "str" "str" = true from rfl]
      repeat walk_at "E"
      refine r_ite (fun hk => ?_) (fun hk => ?_)
      · repeat walk_at "E"
        obtain ⟨j, rfl⟩ : ∃ j, i = j + 1 := ⟨i - 1, by omega⟩
        have hgj : (x.2.map fun t => V.ref t.1)[j]? = some (.ref (x.2[j]'(by omega)).1) := by rw [List.getElem?_map, List.getElem?_eq_getElem (by omega)]; rfl
        have hTj := s2.tup (hX.2 _ (List.getElem_mem (show j < x.2.length by omega)))
        have hll : L2.ltP (x.2[j]'(by omega)).2 y.2 = true := by
          have z := List.pairwise_iff_getElem.mp hlt j (j + 1) (by rw [List.length_map]; omega) (by rw [List.length_map]; omega) (by omega)
          rw [List.getElem_map, List.getElem_map, hy] at z
          exact z
        refine r_ix_lst (SqL.of X2.1) (i := 0 + ((j + 1 : Nat) : Int) - 1) (by rw [show 0 + ((j + 1 : Nat) : Int) - 1 = (j : Int) by omega]; exact atI_nat (j := j) hgj) ?_
        repeat walk_at "E"
        refine r_ix_lst (SqL.of X2.1) (i := 0 + ((j + 1 : Nat) : Int)) (by rw [Int.zero_add]; exact atI_nat (j := j + 1) hgi) ?_
        refine .inl ⟨x.2[j]'(by omega), y, rfl, rfl, hTj, T2, ?_⟩
        rw [hll]
        repeat walk_at "E"
        exact hn
      · repeat walk_at "E"
        exact hn
    · rintro σ H2 ⟨s2, f2, v4, v5, v6, rfl⟩
      refine ⟨by show x.2.length ≤ _; omega, ?_⟩
      rw [List.take_of_length_le (by rw [List.length_map]; omega)] at f2
      obtain ⟨ps, hps⟩ : ∃ ps, ps = x.2.map (·.2) := ⟨_, rfl⟩
      have hpl : ps.length ≤ 20 := by rw [hps, List.length_map]; exact hxl
      rw [← hps] at f2 hO
      repeat walk_at "R"
      refine r_it_dic f2 (fun ndd o8 => ?_)
      refine comp2_n (n := (pKV ps).length) (fun i out H' => Same (frzD d o8 (pKV ps) H2) H' ∧ out = (List.replicate i true).map V.bl) ⟨Same.refl _, rfl⟩ (fun i out H' hi hp => ⟨hp.1 _ _ upd_same, hi⟩) ?_ ?_
      · rintro N i v out H8' H8 hi ⟨s8, rfl⟩ ⟨rfl, kv, hkv, rfl⟩ hN'
        obtain ⟨z, hz, rfl⟩ := pKV_get hkv
        have le8 := (le_frz (o := o8) f2).trans s8.le
        have leH := s2.le.trans le8
        rw [pKV_len] at hi
        have hzm := List.mem_of_getElem? hz
        repeat walk_at "R"
        refine ⟨rfl, ?_⟩
        repeat walk_at "R"
        refine ⟨a, p, q, a', p', q', d, kvs, kvs', P0, R, ps, z, rfl, hP.mono leH, ndP, hR.mono leH, ndR, le8.dic (.inl f2), hO.nk, hzm, WP.inP (t := z.2) (hO.wp z hzm), fun H9 bb m9 hbb => ?_⟩
        have eb : bb = true := hbb.mpr (hO.wp z hzm)
        subst eb
        refine ⟨small (by rw [List.length_map, List.length_replicate]; omega), hN' _ _ ⟨s8.trans m9, by rw [List.replicate_succ', List.map_append]; rfl⟩⟩
      · rintro out H8 ⟨s8, rfl⟩
        refine ⟨⟨s8 _ _ upd_same, Nat.le_refl _⟩, fun D2 hD2 => ⟨small (by rw [List.length_map, List.length_replicate, pKV_len]; omega), ?_⟩⟩
        have sM := same_new f2 s8 hD2 (u := .lst ((List.replicate (pKV ps).length true).map V.bl))
        have fM := at_new s8 hD2 (u := .lst ((List.replicate (pKV ps).length true).map V.bl))
        generalize thaw d (upd H8 D2 (.lst ((List.replicate (pKV ps).length true).map V.bl))) = HM at sM fM ⊢
        repeat walk_at "R"
        refine r_all (SqL.of fM) ?_
        rw [all_rep]
        exact k _ (s2.trans sM)
section
variable {P R : Web} {F : List PrS}
theorem IsO.ptR (o : IsO P R F) (ndP : (nmsW P).Nodup) {n t kd : Str} (h : (n, t) ∈ F) (hk : (n, kd) ∈ P.pts) : (t, kd) ∈ R.pts := (WP_pt ndP hk).mp (o.wp _ h)
theorem IsO.tiR (o : IsO P R F) (ndP : (nmsW P).Nodup) {n t : Str} {x : Tie} (h : (n, t) ∈ F) (hk : (n, x) ∈ P.ts) : ∃ s e, (x.2.1, s) ∈ F ∧ (x.2.2, e) ∈ F ∧ (t, (x.1, s, e)) ∈ R.ts := (WP_ti ndP hk).mp (o.wp _ h)
theorem IsO.u2 (o : IsO P R F) {n n' t : Str} (h : (n, t) ∈ F) (h' : (n', t) ∈ F) : n = n' :=
  nd_fst_uniq (l := F.map fun x => (x.2, x.1)) (by rw [List.map_map]; exact o.nv) (List.mem_map.mpr ⟨_, h, rfl⟩) (List.mem_map.mpr ⟨_, h', rfl⟩)
theorem IsO.nd (o : IsO P R F) : F.Nodup := List.Pairwise.imp (fun {a b} z e => z (by rw [e])) (List.pairwise_map.mp o.nk)
def lk (r : List PrS) (n : Str) : Option Str := (r.find? fun z => decide (z.1 = n)).map (·.2)
theorem lk_iff {r : List PrS} (nd : (r.map (·.1)).Nodup) {n p : Str} : lk r n = some p ↔ (n, p) ∈ r := by
  induction r with
  | nil => exact ⟨(fun h => nomatch h), (fun h => nomatch h)⟩
  | cons z r ih =>
    have n2 := List.nodup_cons.mp (show (z.1 :: r.map (·.1)).Nodup from nd)
    unfold lk
    by_cases e : z.1 = n
    · rw [List.find?_cons_of_pos (by rw [decide_eq_true_eq]; exact e)]
      constructor
      · intro h
        have h' : z.2 = p := Option.some.inj h
        rw [show (n, p) = z from Prod.ext e.symm h'.symm]
        exact List.mem_cons_self
      · intro h
        rcases List.mem_cons.mp h with h | h
        · rw [← h]; rfl
        · exact absurd (List.mem_map.mpr ⟨_, h, rfl⟩) (by rw [← e]; exact n2.1)
    · rw [List.find?_cons_of_neg (by rw [decide_eq_true_eq]; exact e)]
      refine (ih n2.2).trans ⟨fun h => List.mem_cons_of_mem _ h, fun h => ?_⟩
      rcases List.mem_cons.mp h with h | h
      · exact absurd (by rw [← h]) e
      · exact h
def canL (pa : List (Str × List Str)) (g : Str → Option Str) : List PrS := pa.filterMap fun x => (g x.1).map fun p => (x.1, p)
theorem can_snoc (pa : List (Str × List Str)) (x : Str × List Str) (g : Str → Option Str) : canL (pa ++ [x]) g = canL pa g ++ (match g x.1 with | some p => [(x.1, p)] | none => []) := by
  unfold canL
  rw [List.filterMap_append]
  congr 1
  cases h : g x.1 with
  | none => rw [List.filterMap_cons_none (by rw [h]; rfl)]; rfl
  | some p => rw [List.filterMap_cons_some (b := (x.1, p)) (by rw [h]; rfl)]; rfl
theorem can_mem {pa : List (Str × List Str)} {g : Str → Option Str} {n p : Str} : (n, p) ∈ canL pa g ↔ n ∈ pa.map (·.1) ∧ g n = some p := by
  unfold canL
  rw [List.mem_filterMap]
  constructor
  · rintro ⟨x, hx, e⟩
    obtain ⟨p', hp', e2⟩ := Option.map_eq_some_iff.mp e
    cases e2
    exact ⟨List.mem_map.mpr ⟨x, hx, rfl⟩, hp'⟩
  · rintro ⟨h, e⟩
    obtain ⟨x, hx, rfl⟩ := List.mem_map.mp h
    exact ⟨x, hx, by rw [e]; rfl⟩
theorem can_congr {pa : List (Str × List Str)} {g g' : Str → Option Str} (h : ∀ n ∈ pa.map (·.1), g n = g' n) : canL pa g = canL pa g' := by
  unfold canL
  induction pa with
  | nil => rfl
  | cons x pa ih =>
    have e := h x.1 List.mem_cons_self
    have ih' := ih fun n hn => h n (List.mem_cons_of_mem _ hn)
    cases c : g x.1 with
    | none => rw [List.filterMap_cons_none (by rw [c]; rfl), List.filterMap_cons_none (by rw [← e, c]; rfl), ih']
    | some p => rw [List.filterMap_cons_some (b := (x.1, p)) (by rw [c]; rfl), List.filterMap_cons_some (b := (x.1, p)) (by rw [← e, c]; rfl), ih']
theorem can_keys (pa : List (Str × List Str)) (g : Str → Option Str) : ((canL pa g).map (·.1)).Sublist (pa.map (·.1)) := by
  induction pa with
  | nil => exact List.nil_sublist _
  | cons x pa ih =>
    unfold canL at ih ⊢
    cases h : g x.1 with
    | none =>
      rw [List.filterMap_cons_none (by rw [h]; rfl)]
      exact ih.cons _
    | some p =>
      rw [List.filterMap_cons_some (b := (x.1, p)) (by rw [h]; rfl)]
      exact ih.cons_cons _
theorem rev_ind {α : Type} {M : List α → Prop} (h0 : M []) (hs : ∀ l x, M l → M (l ++ [x])) : ∀ l, M l := by
  intro l
  generalize hn : l.length = n
  induction n generalizing l with
  | zero => rw [List.eq_nil_of_length_eq_zero hn]; exact h0
  | succ n ih =>
    obtain ⟨pb, x, rfl⟩ : ∃ pb x, l = pb ++ [x] := ⟨l.dropLast, l.getLast (by intro e; rw [e] at hn; cases hn), (List.dropLast_concat_getLast _).symm⟩
    rw [List.length_append, List.length_singleton] at hn
    exact hs pb x (ih pb (by omega))
theorem can_in (g : Str → Option Str) : ∀ pa : List (Str × List Str), (∀ x ∈ pa, ∀ p, g x.1 = some p → p ∈ x.2) → (∀ n n' p, g n = some p → g n' = some p → n = n') → (pa.map (·.1)).Nodup → canL pa g ∈ pairL pa := by
  refine rev_ind (fun _ _ _ => List.mem_singleton.mpr rfl) fun pa x ih h1 h2 nd => ?_
  rw [List.map_append] at nd
  have n2 := List.nodup_append.mp nd
  have ih' := ih (fun y hy => h1 y (List.mem_append_left _ hy)) h2 n2.1
  rw [can_snoc, pairL_snoc]
  unfold stepL
  cases h : g x.1 with
  | none =>
    show canL pa g ++ [] ∈ _
    rw [List.append_nil]; exact List.mem_append_left _ ih'
  | some p =>
    refine List.mem_append_right _ (List.mem_flatMap.mpr ⟨_, ih', List.mem_map.mpr ⟨p, List.mem_filter.mpr ⟨h1 x (by simp) p h, ?_⟩, rfl⟩⟩)
    rw [Bool.not_eq_true', decide_eq_false_iff_not]
    intro m
    obtain ⟨z, hz, e⟩ := List.mem_map.mp m
    have z2 := can_mem.mp (show (z.1, z.2) ∈ canL pa g from hz)
    have e2 := h2 z.1 x.1 p (by rw [z2.2]; exact congrArg some e) h
    exact n2.2.2 _ z2.1 _ (by rw [e2]; simp) rfl
theorem can_uniq : ∀ pa : List (Str × List Str), (pa.map (·.1)).Nodup → ∀ r ∈ pairL pa, r = canL pa (lk r) := by
  refine rev_ind (fun _ r hr => List.mem_singleton.mp hr) fun pa x ih nd r hr => ?_
  rw [List.map_append] at nd
  have n2 := List.nodup_append.mp nd
  have hxn : x.1 ∉ pa.map (·.1) := fun m => n2.2.2 _ m _ (by simp) rfl
  rw [pairL_snoc] at hr
  rw [can_snoc]
  rcases List.mem_append.mp hr with z | z
  · have e := ih n2.1 r z
    have k : x.1 ∉ r.map (·.1) := fun m => hxn ((pairL_keys z).subset m)
    have kn : (r.map (·.1)).Nodup := n2.1.sublist (pairL_keys z)
    cases h : lk r x.1 with
    | none => rw [← e]; exact (List.append_nil _).symm
    | some p => exact absurd (List.mem_map.mpr ⟨_, (lk_iff kn).mp h, rfl⟩) k
  · obtain ⟨row, hrow, z⟩ := List.mem_flatMap.mp z
    obtain ⟨p, _, rfl⟩ := List.mem_map.mp z
    have e := ih n2.1 row hrow
    have sb := pairL_keys hrow
    have k : x.1 ∉ row.map (·.1) := fun m => hxn (sb.subset m)
    have kn : (row.map (·.1)).Nodup := n2.1.sublist sb
    have kn2 : ((row ++ [(x.1, p)]).map (·.1)).Nodup := by
      rw [List.map_append]
      refine List.nodup_append.mpr ⟨kn, by simp, fun a ha b hb e => ?_⟩
      rw [List.mem_singleton.mp hb] at e
      rw [e] at ha; exact k ha
    rw [(lk_iff kn2).mpr (show (x.1, p) ∈ row ++ [(x.1, p)] by simp)]
    have c : canL pa (lk (row ++ [(x.1, p)])) = canL pa (lk row) := can_congr fun n hn => by
      refine Option.ext fun q => ?_
      rw [lk_iff kn2, lk_iff kn, List.mem_append]
      constructor
      · rintro (h | h)
        · exact h
        · rw [List.mem_singleton] at h
          cases h
          exact absurd hn hxn
      · exact .inl
    rw [c, ← e]
theorem pairL_nd : ∀ pa : List (Str × List Str), (pa.map (·.1)).Nodup → (∀ x ∈ pa, x.2.Nodup) → (pairL pa).Nodup := by
  refine rev_ind (fun _ _ => by show ([[]] : List (List PrS)).Nodup; simp) fun pa x ih nd hx => ?_
  rw [List.map_append] at nd
  have n2 := List.nodup_append.mp nd
  have hxn : x.1 ∉ pa.map (·.1) := fun m => n2.2.2 _ m _ (by simp) rfl
  have ih' := ih n2.1 fun y hy => hx y (List.mem_append_left _ hy)
  rw [pairL_snoc]
  unfold stepL
  have inE : ∀ {row r : List PrS}, r ∈ extL row x → ∃ p, r = row ++ [(x.1, p)] := fun h => by
    obtain ⟨p, _, rfl⟩ := List.mem_map.mp h
    exact ⟨p, rfl⟩
  refine List.nodup_append.mpr ⟨ih', ?_, fun a ha b hb e => ?_⟩
  · refine List.pairwise_flatMap.mpr ⟨fun row _ => ?_, ih'.imp fun {a b} hab r hr r' hr' e => ?_⟩
    · unfold extL
      refine List.pairwise_map.mpr (((hx x (by simp)).sublist List.filter_sublist).imp fun {p q} hpq e => hpq ?_)
      have z := List.append_cancel_left e
      exact congrArg Prod.snd (List.cons.inj z).1
    · obtain ⟨p, rfl⟩ := inE hr
      obtain ⟨q, rfl⟩ := inE hr'
      exact hab (List.append_inj' e rfl).1
  · obtain ⟨row, hrow, z⟩ := List.mem_flatMap.mp hb
    obtain ⟨p, rfl⟩ := inE z
    rw [e] at ha
    exact hxn ((pairL_keys ha).subset (List.mem_map.mpr ⟨(x.1, p), by simp, rfl⟩))
theorem cnt_one {α : Type} {p : α → Bool} : ∀ {l : List α} {b : α}, l.Nodup → b ∈ l → p b = true → (∀ c ∈ l, c ≠ b → p c = false) → l.countP p = 1
  | a :: l, b, nd, hb, h1, h0 => by
    have n2 := List.nodup_cons.mp nd
    rcases List.mem_cons.mp hb with rfl | hb
    · rw [List.countP_cons_of_pos h1, List.countP_eq_zero.mpr fun c hc => ?_]
      rw [h0 c (List.mem_cons_of_mem _ hc) fun e => n2.1 (by rw [← e]; exact hc)]
      decide
    · rw [List.countP_cons_of_neg]
      · exact cnt_one n2.2 hb h1 fun c hc => h0 c (List.mem_cons_of_mem _ hc)
      · rw [h0 a List.mem_cons_self fun e => n2.1 (by rw [e]; exact hb)]
        decide
theorem cnt_flat {α β : Type} {f : α → List β} {p : β → Bool} : ∀ {l : List α} {b : α}, l.Nodup → b ∈ l → (f b).countP p = 1 → (∀ c ∈ l, c ≠ b → (f c).countP p = 0) → (l.flatMap f).countP p = 1
  | a :: l, b, nd, hb, h1, h0 => by
    have n2 := List.nodup_cons.mp nd
    rw [List.flatMap_cons, List.countP_append]
    rcases List.mem_cons.mp hb with rfl | hb
    · rw [h1, List.countP_eq_zero.mpr fun c hc => ?_]
      obtain ⟨d, hd, hc'⟩ := List.mem_flatMap.mp hc
      exact (List.countP_eq_zero.mp (h0 d (List.mem_cons_of_mem _ hd) fun e => n2.1 (by rw [← e]; exact hd))) c hc'
    · rw [cnt_flat n2.2 hb h1 fun c hc => h0 c (List.mem_cons_of_mem _ hc), h0 a List.mem_cons_self fun e => n2.1 (by rw [e]; exact hb)]
theorem cnt_rows (o : IsO P R F) (ndP : (nmsW P).Nodup) (ndR : (nmsW R).Nodup) (eP : ∀ x ∈ P.ts, x.2.2.1 ∈ P.pts.map (·.1) ∧ x.2.2.2 ∈ P.pts.map (·.1)) : (ovL P R).countP (fun r => decide (r.Perm F)) = 1 := by
  have nP := nd_pts ndP
  have nT := nd_ts ndP
  have nk := o.nk
  have kPP : ((PP P R).map (·.1)).Nodup := by rw [PP_keys]; exact nP
  have kTP : ∀ a, ((TP P R a).map (·.1)).Nodup := fun a => by rw [TP_keys]; exact nT
  have dis : ∀ n, n ∈ P.pts.map (·.1) → n ∈ P.ts.map (·.1) → False := fun n h1 h2 => (List.nodup_append.mp ndP).2.2 n h1 n h2 rfl
  have inj : ∀ n n' p, lk F n = some p → lk F n' = some p → n = n' := fun n n' p h1 h2 => o.u2 ((lk_iff nk).mp h1) ((lk_iff nk).mp h2)
  obtain ⟨A0, hA0⟩ : ∃ A0, A0 = canL (PP P R) (lk F) := ⟨_, rfl⟩
  have A0m : ∀ {n p}, (n, p) ∈ A0 ↔ n ∈ P.pts.map (·.1) ∧ (n, p) ∈ F := fun {n p} => by rw [hA0, can_mem, PP_keys, lk_iff nk]
  have A0k : (A0.map (·.1)).Nodup := kPP.sublist (by rw [hA0]; exact can_keys _ _)
  obtain ⟨B0, hB0⟩ : ∃ B0, B0 = canL (TP P R A0) (lk F) := ⟨_, rfl⟩
  have B0m : ∀ {n p}, (n, p) ∈ B0 ↔ n ∈ P.ts.map (·.1) ∧ (n, p) ∈ F := fun {n p} => by rw [hB0, can_mem, TP_keys, lk_iff nk]
  have B0k : (B0.map (·.1)).Nodup := (kTP A0).sublist (by rw [hB0]; exact can_keys _ _)
  have inA : A0 ∈ pairL (PP P R) := by
    rw [hA0]
    refine can_in _ _ (fun x hx p hp => ?_) inj kPP
    obtain ⟨y, hy, rfl⟩ := List.mem_map.mp hx
    have z := o.ptR ndP ((lk_iff nk).mp hp) (show (y.1, y.2) ∈ P.pts from hy)
    exact List.mem_map.mpr ⟨_, List.mem_filter.mpr ⟨z, by simp⟩, rfl⟩
  have inB : B0 ∈ pairL (TP P R A0) := by
    rw [hB0]
    refine can_in _ _ (fun x hx p hp => ?_) inj (kTP A0)
    obtain ⟨y, hy, rfl⟩ := List.mem_map.mp hx
    obtain ⟨s, e, h1, h2, h3⟩ := o.tiR ndP ((lk_iff nk).mp hp) (show (y.1, y.2) ∈ P.ts from hy)
    refine List.mem_map.mpr ⟨_, List.mem_filter.mpr ⟨h3, ?_⟩, rfl⟩
    exact (tieO_eq A0k _ _).mpr ⟨rfl, A0m.mpr ⟨(eP _ hy).1, h1⟩, A0m.mpr ⟨(eP _ hy).2, h2⟩⟩
  have pm0 : (A0 ++ B0).Perm F := by
    have nd1 : ∀ {l : List PrS}, (l.map (·.1)).Nodup → l.Nodup := fun {l} h => by
      rw [List.Nodup, List.pairwise_map] at h
      exact h.imp fun hab e => hab (by rw [e])
    refine (List.perm_ext_iff_of_nodup (List.nodup_append.mpr ⟨nd1 A0k, nd1 B0k, fun a ha b hb e => ?_⟩) o.nd).mpr fun z => ?_
    · subst e
      exact dis a.1 (A0m.mp (show (a.1, a.2) ∈ A0 from ha)).1 (B0m.mp (show (a.1, a.2) ∈ B0 from hb)).1
    · obtain ⟨n, p⟩ := z
      rw [List.mem_append, A0m, B0m]
      constructor
      · exact fun h => h.elim (·.2) (·.2)
      · intro h
        have z := WP.inP (t := p) (o.wp _ h)
        rcases List.mem_append.mp (show n ∈ P.pts.map (·.1) ++ P.ts.map (·.1) from z) with y | y
        · exact .inl ⟨y, h⟩
        · exact .inr ⟨y, h⟩
  have key : ∀ a ∈ pairL (PP P R), ∀ b ∈ pairL (TP P R a), (a ++ b).Perm F → a = A0 ∧ (a = A0 → b = B0) := fun a ha b hb pm => by
    have ka := pairL_keys ha
    rw [PP_keys] at ka
    have kb := pairL_keys hb
    rw [TP_keys] at kb
    have ea : a = A0 := by
      rw [can_uniq _ kPP a ha, hA0]
      refine can_congr fun n hn => Option.ext fun q => ?_
      rw [PP_keys] at hn
      rw [lk_iff (nP.sublist ka), lk_iff nk, ← pm.mem_iff, List.mem_append]
      constructor
      · exact .inl
      · rintro (h | h)
        · exact h
        · exact (dis n hn (kb.subset (List.mem_map.mpr ⟨_, h, rfl⟩))).elim
    refine ⟨ea, fun _ => ?_⟩
    rw [can_uniq _ (kTP a) b hb, hB0, ea]
    refine can_congr fun n hn => Option.ext fun q => ?_
    rw [TP_keys] at hn
    rw [lk_iff (nT.sublist kb), lk_iff nk, ← pm.mem_iff, List.mem_append]
    constructor
    · exact .inr
    · rintro (h | h)
      · exact (dis n (ka.subset (List.mem_map.mpr ⟨_, h, rfl⟩)) hn).elim
      · exact h
  have ndPP : (pairL (PP P R)).Nodup := pairL_nd _ kPP fun x hx => by
    obtain ⟨y, _, rfl⟩ := List.mem_map.mp hx
    exact (nd_pts ndR).sublist (List.filter_sublist.map _)
  have ndTP : ∀ a, (pairL (TP P R a)).Nodup := fun a => pairL_nd _ (kTP a) fun x hx => by
    obtain ⟨y, _, rfl⟩ := List.mem_map.mp hx
    exact (nd_ts ndR).sublist (List.filter_sublist.map _)
  refine cnt_flat ndPP inA ?_ fun a ha hne => ?_
  · rw [List.countP_map]
    refine cnt_one (ndTP A0) inB (by show decide _ = true; rw [decide_eq_true_eq]; exact pm0) fun b hb hne => ?_
    show decide _ = false
    rw [decide_eq_false_iff_not]
    exact fun pm => hne ((key A0 inA b hb pm).2 rfl)
  · refine List.countP_eq_zero.mpr fun r hr => ?_
    obtain ⟨b, hb, rfl⟩ := List.mem_map.mp hr
    rw [decide_eq_true_eq]
    exact fun pm => hne (key a ha b hb pm).1
theorem cnt_ov {F : List PrS} (sF : SrP F) : ∀ {ls : List LsT} {rs : List (List PrS)}, Paired OvR ls rs → ls.countP (fun y => decide (y.2.map (·.2) = F)) = rs.countP (fun r => decide (r.Perm F))
  | _, _, .nil => rfl
  | _, _, .cons (a := x) (b := r) h t => by
    have e : decide (x.2.map (·.2) = F) = decide (r.Perm F) := by
      rw [Bool.eq_iff_iff, decide_eq_true_eq, decide_eq_true_eq]
      exact ⟨fun z => by rw [← z]; exact h.1.symm, fun z => srp_uniq h.2 sF (h.1.trans z)⟩
    rw [List.countP_cons, List.countP_cons, cnt_ov sF t, e]
end
section
variable {P R : Web} {F : List PrS}
theorem pairL_ok : ∀ pa : List (Str × List Str), ∀ r ∈ pairL pa, (r.map (·.2)).Nodup ∧ ∀ z ∈ r, ∃ x ∈ pa, x.1 = z.1 ∧ z.2 ∈ x.2 := by
  refine rev_ind (fun r hr => ?_) fun pa x ih r hr => ?_
  · rw [List.mem_singleton.mp hr]; exact ⟨List.nodup_nil, fun _ h => nomatch h⟩
  · rw [pairL_snoc] at hr
    rcases List.mem_append.mp hr with h | h
    · exact ⟨(ih r h).1, fun z hz => let ⟨y, a, b⟩ := (ih r h).2 z hz; ⟨y, List.mem_append_left _ a, b⟩⟩
    · obtain ⟨row, hrow, h⟩ := List.mem_flatMap.mp h
      obtain ⟨p, hp, rfl⟩ := List.mem_map.mp h
      have hp' := List.mem_filter.mp hp
      have np : p ∉ row.map (·.2) := by simpa using hp'.2
      refine ⟨by rw [List.map_append]; exact nd_snoc (ih row hrow).1 np, fun z hz => ?_⟩
      rcases List.mem_append.mp hz with h | h
      · obtain ⟨y, a, b⟩ := (ih row hrow).2 z h
        exact ⟨y, List.mem_append_left _ a, b⟩
      · rw [List.mem_singleton.mp h]
        exact ⟨x, by simp, rfl, hp'.1⟩
theorem ov_isO (ndP : (nmsW P).Nodup) (ndR : (nmsW R).Nodup) : ∀ r ∈ ovL P R, IsO P R r := fun r hr => by
  obtain ⟨a, ha, hr⟩ := List.mem_flatMap.mp hr
  obtain ⟨b, hb, rfl⟩ := List.mem_map.mp hr
  have nP := nd_pts ndP
  have nT := nd_ts ndP
  have ka := pairL_keys ha
  rw [PP_keys] at ka
  have kb := pairL_keys hb
  rw [TP_keys] at kb
  have nka := nP.sublist ka
  have ga : ∀ z ∈ a, ∃ kd, (z.1, kd) ∈ P.pts ∧ (z.2, kd) ∈ R.pts := fun z hz => by
    obtain ⟨x, hx, e, m⟩ := (pairL_ok _ a ha).2 z hz
    obtain ⟨y, hy, rfl⟩ := List.mem_map.mp hx
    obtain ⟨u, hu, eu⟩ := List.mem_map.mp m
    have hu' := List.mem_filter.mp hu
    refine ⟨y.2, by rw [← e]; exact hy, ?_⟩
    rw [← eu, ← of_decide_eq_true hu'.2]
    exact hu'.1
  have gb : ∀ z ∈ b, ∃ (t : Tie) (s e : Str), (z.1, t) ∈ P.ts ∧ (t.2.1, s) ∈ a ∧ (t.2.2, e) ∈ a ∧ (z.2, (t.1, s, e)) ∈ R.ts := fun z hz => by
    obtain ⟨x, hx, e, m⟩ := (pairL_ok _ b hb).2 z hz
    obtain ⟨y, hy, rfl⟩ := List.mem_map.mp hx
    obtain ⟨u, hu, eu⟩ := List.mem_map.mp m
    have hu' := List.mem_filter.mp hu
    obtain ⟨h1, h2, h3⟩ := (tieO_eq nka _ _).mp (show eqVs (tieV u.2) (tieO a y.2) = true from hu'.2)
    refine ⟨y.2, u.2.2.1, u.2.2.2, by rw [← e]; exact hy, h2, h3, ?_⟩
    rw [← eu, ← h1]
    exact hu'.1
  refine ⟨?_, ?_, fun z hz => ?_⟩
  · rw [List.map_append]
    exact List.nodup_append.mpr ⟨nka, nT.sublist kb, fun x hx y hy e => (List.nodup_append.mp ndP).2.2 x (ka.subset hx) y (kb.subset hy) e⟩
  · rw [List.map_append]
    refine List.nodup_append.mpr ⟨(pairL_ok _ a ha).1, (pairL_ok _ b hb).1, fun x hx y hy e => ?_⟩
    obtain ⟨z, hz, rfl⟩ := List.mem_map.mp hx
    obtain ⟨u, hu, rfl⟩ := List.mem_map.mp hy
    obtain ⟨kd, _, h1⟩ := ga z hz
    obtain ⟨t, s, e', _, _, _, h2⟩ := gb u hu
    exact (List.nodup_append.mp ndR).2.2 _ (List.mem_map.mpr ⟨_, h1, rfl⟩) _ (List.mem_map.mpr ⟨_, h2, rfl⟩) e
  · rcases List.mem_append.mp hz with h | h
    · exact .inl (ga z h)
    · obtain ⟨t, s, e, h1, h2, h3, h4⟩ := gb z h
      exact .inr ⟨t, s, e, h1, List.mem_append_left _ h2, List.mem_append_left _ h3, h4⟩
def canN (ns : List Str) (g : Str → Option Str) : List PrS := ns.filterMap fun n => (g n).map fun p => (n, p)
theorem canN_mem {ns : List Str} {g : Str → Option Str} {n p : Str} : (n, p) ∈ canN ns g ↔ n ∈ ns ∧ g n = some p := by
  unfold canN
  rw [List.mem_filterMap]
  constructor
  · rintro ⟨m, hm, h⟩
    obtain ⟨q, h1, h2⟩ := Option.map_eq_some_iff.mp h
    cases h2
    exact ⟨hm, h1⟩
  · rintro ⟨h1, h2⟩
    exact ⟨n, h1, by rw [h2]; rfl⟩
theorem canN_congr {ns : List Str} {g g' : Str → Option Str} (h : ∀ n ∈ ns, g n = g' n) : canN ns g = canN ns g' := by
  unfold canN
  induction ns with
  | nil => rfl
  | cons n ns ih =>
    rw [List.filterMap_cons, List.filterMap_cons, h n List.mem_cons_self, ih fun m hm => h m (List.mem_cons_of_mem _ hm)]
theorem canN_snoc (ns : List Str) (n : Str) (g : Str → Option Str) : canN (ns ++ [n]) g = canN ns g ++ (match g n with | some p => [(n, p)] | none => []) := by
  unfold canN
  rw [List.filterMap_append]
  congr 1
  cases h : g n with
  | none => simp [h]
  | some p => simp [h]
theorem lk_cons_ne {z : PrS} {r : List PrS} {n : Str} (h : z.1 ≠ n) : lk (z :: r) n = lk r n := by
  unfold lk
  rw [List.find?_cons_of_neg (by rw [decide_eq_true_eq]; exact h)]
theorem lk_cons_eq {z : PrS} {r : List PrS} : lk (z :: r) z.1 = some z.2 := by
  unfold lk
  rw [List.find?_cons_of_pos (by rw [decide_eq_true_eq])]
  rfl
theorem lk_out {r : List PrS} {n : Str} (h : n ∉ r.map (·.1)) : lk r n = none := by
  unfold lk
  rw [List.find?_eq_none.mpr fun z hz => by rw [decide_eq_true_eq]; exact fun e => h (List.mem_map.mpr ⟨z, hz, e⟩)]
  rfl
theorem canN_of : ∀ {ns : List Str} {E : List PrS}, (E.map (·.1)).Sublist ns → ns.Nodup → E = canN ns (lk E)
  | [], E, h, _ => by
    have e : E = [] := by
      cases E with
      | nil => rfl
      | cons z E => cases h
    subst e
    rfl
  | n :: ns, E, h, nd => by
    have n2 := List.nodup_cons.mp nd
    by_cases hn : n ∈ E.map (·.1)
    · cases E with
      | nil => cases hn
      | cons z E =>
        rcases List.sublist_cons_iff.mp h with y | ⟨r, e1, e2⟩
        · exact absurd (y.subset hn) n2.1
        · have e1' := List.cons.inj (show z.1 :: E.map (·.1) = n :: r from e1)
          have e2' : (E.map (·.1)).Sublist ns := by rw [e1'.2]; exact e2
          have ez : z.1 = n := e1'.1
          subst ez
          have hc : canN ns (lk (z :: E)) = E := by
            rw [canN_congr (g' := lk E) fun m hm => lk_cons_ne fun y => n2.1 (by rw [y]; exact hm)]
            exact (canN_of e2' n2.2).symm
          show _ = List.filterMap _ (z.1 :: ns)
          rw [List.filterMap_cons, lk_cons_eq]
          show _ = (z.1, z.2) :: canN ns (lk (z :: E))
          rw [hc]
    · have h' : (E.map (·.1)).Sublist ns := by
        rcases List.sublist_cons_iff.mp h with y | ⟨r, e1, e2⟩
        · exact y
        · exact absurd (by rw [e1]; exact List.mem_cons_self) hn
      show _ = List.filterMap _ (n :: ns)
      rw [List.filterMap_cons, lk_out hn]
      exact canN_of h' n2.2
end
section
variable {P R : Web} {F : List PrS} {as : List Str}
theorem enum_pre : ∀ {ns : List Str} {D G : List PrS}, G ∈ enumL P R as ns D → ∃ E, G = D ++ E ∧ (E.map (·.1)).Sublist ns
  | [], D, G, h => ⟨[], by rw [List.mem_singleton.mp h, List.append_nil], List.nil_sublist _⟩
  | n :: ns, D, G, h => by
    rcases List.mem_append.mp h with h | h
    · obtain ⟨E, e, s⟩ := enum_pre h
      exact ⟨E, e, s.cons _⟩
    · obtain ⟨t, ht, h⟩ := List.mem_flatMap.mp h
      obtain ⟨E, e, s⟩ := enum_pre h
      exact ⟨(n, t) :: E, by rw [e, List.append_assoc]; rfl, s.cons₂ _⟩
theorem nd_flat {α β : Type} {f : α → List β} : ∀ {l : List α}, l.Nodup → (∀ a ∈ l, (f a).Nodup) → (∀ a ∈ l, ∀ b ∈ l, a ≠ b → ∀ x, x ∈ f a → x ∈ f b → False) → (l.flatMap f).Nodup
  | [], _, _, _ => List.nodup_nil
  | a :: l, nd, h1, h2 => by
    have n2 := List.nodup_cons.mp nd
    rw [List.flatMap_cons]
    refine List.nodup_append.mpr ⟨h1 a List.mem_cons_self, nd_flat n2.2 (fun b hb => h1 b (List.mem_cons_of_mem _ hb)) fun b hb c hc => h2 b (List.mem_cons_of_mem _ hb) c (List.mem_cons_of_mem _ hc), fun x hx y hy e => ?_⟩
    obtain ⟨b, hb, hy⟩ := List.mem_flatMap.mp hy
    subst e
    exact h2 a List.mem_cons_self b (List.mem_cons_of_mem _ hb) (fun e => n2.1 (by rw [e]; exact hb)) x hx hy
theorem enum_nd (ha : as.Nodup) : ∀ {ns : List Str} {D : List PrS}, ns.Nodup → (enumL P R as ns D).Nodup
  | [], D, _ => by show [D].Nodup; simp
  | n :: ns, D, nd => by
    have n2 := List.nodup_cons.mp nd
    refine List.nodup_append.mpr ⟨enum_nd ha n2.2, nd_flat (ha.sublist List.filter_sublist) (fun t _ => enum_nd ha n2.2) (fun t _ u _ ne G h1 h2 => ?_), fun G hG G' hG' e => ?_⟩
    · obtain ⟨E, e1, _⟩ := enum_pre h1
      obtain ⟨E', e2, _⟩ := enum_pre h2
      rw [e1, List.append_assoc, List.append_assoc] at e2
      have z := List.cons.inj (List.append_cancel_left e2)
      exact ne (congrArg (·.2) z.1)
    · subst e
      obtain ⟨t, ht, hG'⟩ := List.mem_flatMap.mp hG'
      obtain ⟨E, e1, s1⟩ := enum_pre hG
      obtain ⟨E', e2, _⟩ := enum_pre hG'
      rw [e1, List.append_assoc] at e2
      have z := List.append_cancel_left e2
      exact n2.1 (s1.subset (by rw [z]; simp))
theorem IsO.add {D : List PrS} {n t : Str} (h : IsO P R D) (hn : n ∉ D.map (·.1)) (ht : t ∉ D.map (·.2)) (w : WP P R (D ++ [(n, t)]) (n, t)) : IsO P R (D ++ [(n, t)]) := by
  refine ⟨by rw [List.map_append]; exact nd_snoc h.nk hn, by rw [List.map_append]; exact nd_snoc h.nv ht, fun x hx => ?_⟩
  rcases List.mem_append.mp hx with z | z
  · exact (h.wp x z).mono fun y hy => List.mem_append_left _ hy
  · rw [List.mem_singleton.mp z]; exact w
theorem enum_isO : ∀ {ns : List Str} {D G : List PrS}, IsO P R D → (D.map (·.1) ++ ns).Nodup → G ∈ enumL P R as ns D → IsO P R G
  | [], D, G, o, _, h => by rw [List.mem_singleton.mp h]; exact o
  | n :: ns, D, G, o, nd, h => by
    have nd2 := List.nodup_append.mp nd
    have hnD : n ∉ D.map (·.1) := fun m => nd2.2.2 n m n List.mem_cons_self rfl
    rcases List.mem_append.mp h with h | h
    · exact enum_isO o (List.nodup_append.mpr ⟨nd2.1, (List.nodup_cons.mp nd2.2.1).2, fun x hx y hy => nd2.2.2 x hx y (List.mem_cons_of_mem _ hy)⟩) h
    · obtain ⟨t, ht, h⟩ := List.mem_flatMap.mp h
      obtain ⟨h1, h2⟩ := mayB_iff.mp (List.mem_filter.mp ht).2
      exact enum_isO (o.add hnD h1 h2) (by rw [List.map_append, List.append_assoc]; exact nd) h
def OrdOk (P : Web) : List Str → List Str → Prop
  | _, [] => True
  | pr, n :: ns => (∀ y, (n, y) ∈ P.ts → y.2.1 ∈ pr ∧ y.2.2 ∈ pr) ∧ OrdOk P (pr ++ [n]) ns
theorem ord2 (eP : ∀ x ∈ P.ts, x.2.2.1 ∈ P.pts.map (·.1) ∧ x.2.2.2 ∈ P.pts.map (·.1)) : ∀ {ns pr : List Str}, (∀ m ∈ P.pts.map (·.1), m ∈ pr) → OrdOk P pr ns
  | [], _, _ => trivial
  | n :: ns, pr, h => ⟨fun y hy => ⟨h _ (eP _ hy).1, h _ (eP _ hy).2⟩, ord2 eP fun m hm => List.mem_append_left _ (h m hm)⟩
theorem ord1 (eP : ∀ x ∈ P.ts, x.2.2.1 ∈ P.pts.map (·.1) ∧ x.2.2.2 ∈ P.pts.map (·.1)) {t2 : List Str} : ∀ {t1 pr : List Str}, (∀ m ∈ t1, m ∉ P.ts.map (·.1)) → (∀ m ∈ P.pts.map (·.1), m ∈ pr ++ t1) → OrdOk P pr (t1 ++ t2)
  | [], pr, _, h => ord2 eP fun m hm => by have z := h m hm; rwa [List.append_nil] at z
  | n :: t1, pr, h1, h => ⟨fun y hy => absurd (List.mem_map.mpr ⟨_, hy, rfl⟩) (h1 n List.mem_cons_self), ord1 eP (fun m hm => h1 m (List.mem_cons_of_mem _ hm)) fun m hm => by rw [List.append_assoc]; exact h m hm⟩
theorem enum_in (o : IsO P R F) (ndP : (nmsW P).Nodup) (has : ∀ t ∈ nmsW R, t ∈ as) : ∀ {ns pr : List Str}, (pr ++ ns).Nodup → OrdOk P pr ns → canN (pr ++ ns) (lk F) ∈ enumL P R as ns (canN pr (lk F))
  | [], pr, _, _ => by rw [List.append_nil]; exact List.mem_singleton.mpr rfl
  | n :: ns, pr, nd, ok => by
    have nd' : ((pr ++ [n]) ++ ns).Nodup := by rw [List.append_assoc]; exact nd
    have ih := enum_in o ndP has nd' ok.2
    rw [List.append_assoc, canN_snoc] at ih
    cases e : lk F n with
    | none =>
      rw [e] at ih
      dsimp only at ih
      rw [List.append_nil] at ih
      exact List.mem_append_left _ ih
    | some t =>
      rw [e] at ih
      have hF : (n, t) ∈ F := (lk_iff o.nk).mp e
      have inF : ∀ {m u}, m ∈ pr → (m, u) ∈ F → (m, u) ∈ canN pr (lk F) := fun {m u} h1 h2 => canN_mem.mpr ⟨h1, (lk_iff o.nk).mpr h2⟩
      refine List.mem_append_right _ (List.mem_flatMap.mpr ⟨t, List.mem_filter.mpr ⟨has t (WP.inR (o.wp _ hF)), mayB_iff.mpr ⟨fun m => ?_, ?_⟩⟩, ih⟩)
      · obtain ⟨⟨n', t'⟩, h1, h2⟩ := List.mem_map.mp m
        have h2' : t' = t := h2
        subst h2'
        obtain ⟨h3, h4⟩ := canN_mem.mp h1
        have e' := o.u2 ((lk_iff o.nk).mp h4) hF
        subst e'
        exact (List.nodup_append.mp nd).2.2 _ h3 _ List.mem_cons_self rfl
      · rcases o.wp _ hF with ⟨kd, h1, h2⟩ | ⟨y, s, e', h1, h2, h3, h4⟩
        · exact .inl ⟨kd, h1, h2⟩
        · have z := ok.1 y h1
          exact .inr ⟨y, s, e', h1, List.mem_append_left _ (inF z.1 h2), List.mem_append_left _ (inF z.2 h3), h4⟩
theorem lk_perm {G : List PrS} (h : G.Perm F) (nk : (F.map (·.1)).Nodup) (n : Str) : lk G n = lk F n := Option.ext fun q => by
  rw [lk_iff ((h.map _).nodup_iff.mpr nk), lk_iff nk, h.mem_iff]
theorem enum_cnt (o : IsO P R F) (ndP : (nmsW P).Nodup) (eP : ∀ x ∈ P.ts, x.2.2.1 ∈ P.pts.map (·.1) ∧ x.2.2.2 ∈ P.pts.map (·.1)) {t1 t2 : List Str} (ho : Ordr P t1 t2) (ha : as.Nodup) (has : ∀ t ∈ nmsW R, t ∈ as) :
    (enumL P R as (t1 ++ t2) []).countP (fun G => decide (F.Perm G)) = 1 := by
  have ndt : (t1 ++ t2).Nodup := ho.perm.nodup_iff.mpr ndP
  have ok : OrdOk P [] (t1 ++ t2) := ord1 eP (fun m hm z => (List.nodup_append.mp ndP).2.2 m (ho.p1.mem_iff.mp hm) m z rfl) fun m hm => ho.p1.mem_iff.mpr hm
  have hin : canN (t1 ++ t2) (lk F) ∈ enumL P R as (t1 ++ t2) [] := enum_in (pr := []) o ndP has ndt ok
  have hpm : F.Perm (canN (t1 ++ t2) (lk F)) := by
    have oc := enum_isO (G := canN (t1 ++ t2) (lk F)) (D := []) ⟨List.nodup_nil, List.nodup_nil, fun _ h => nomatch h⟩ ndt hin
    refine (List.perm_ext_iff_of_nodup o.nd oc.nd).mpr fun z => ?_
    obtain ⟨n, p⟩ := z
    rw [canN_mem, lk_iff o.nk]
    exact ⟨fun h => ⟨ho.mem.mpr (WP.inP (o.wp _ h)), h⟩, fun h => h.2⟩
  refine cnt_one (enum_nd ha ndt) hin (decide_eq_true hpm) fun G hG ne => decide_eq_false fun pm => ne ?_
  obtain ⟨E, e, s⟩ := enum_pre hG
  rw [List.nil_append] at e
  subst e
  rw [canN_of s ndt]
  exact canN_congr fun n _ => lk_perm pm.symm o.nk n
theorem dbl {α : Type} {q : α → α → Prop} [∀ a b, Decidable (q a b)] : ∀ {A B : List α}, (∀ a ∈ A, B.countP (fun b => decide (q a b)) = 1) → A.length = (B.map fun b => A.countP fun a => decide (q a b)).sum
  | [], B, _ => by
    have e : ∀ B : List α, (B.map fun b => ([] : List α).countP fun a => decide (q a b)).sum = 0 := fun B => by
      induction B with
      | nil => rfl
      | cons b B ih => rw [List.map_cons, List.sum_cons, ih]; rfl
    rw [e]; rfl
  | a :: A, B, h => by
    have ih := dbl (A := A) (B := B) fun c hc => h c (List.mem_cons_of_mem _ hc)
    have e : ∀ B : List α, (B.map fun b => (a :: A).countP fun a => decide (q a b)).sum = (B.map fun b => A.countP fun a => decide (q a b)).sum + B.countP fun b => decide (q a b) := fun B => by
      induction B with
      | nil => rfl
      | cons b B ih =>
        rw [List.map_cons, List.sum_cons, ih, List.map_cons, List.sum_cons, List.countP_cons, List.countP_cons]
        omega
    rw [e, h a List.mem_cons_self, ← ih]
    rfl
theorem sum_one {α : Type} {f : α → Nat} : ∀ {B : List α}, (∀ b ∈ B, f b = 1) → (B.map f).sum = B.length
  | [], _ => rfl
  | b :: B, h => by
    rw [List.map_cons, List.sum_cons, h b List.mem_cons_self, sum_one fun c hc => h c (List.mem_cons_of_mem _ hc), List.length_cons]
    omega
theorem enum_len (ndP : (nmsW P).Nodup) (ndR : (nmsW R).Nodup) (eP : ∀ x ∈ P.ts, x.2.2.1 ∈ P.pts.map (·.1) ∧ x.2.2.2 ∈ P.pts.map (·.1)) {t1 t2 : List Str} (ho : Ordr P t1 t2) :
    (ovL P R).length = (enumL P R (nmsW R) (t1 ++ t2) []).length := by
  have ndt : (t1 ++ t2).Nodup := ho.perm.nodup_iff.mpr ndP
  rw [dbl (q := fun a b => a.Perm b) (B := enumL P R (nmsW R) (t1 ++ t2) []) fun F hF => enum_cnt (ov_isO ndP ndR F hF) ndP eP ho ndR fun t ht => ht]
  exact sum_one fun F hF => cnt_rows (enum_isO (D := []) ⟨List.nodup_nil, List.nodup_nil, fun _ h => nomatch h⟩ ndt hF) ndP ndR eP
theorem cnt_pw {α β : Type} [DecidableEq β] {g : α → β} : ∀ {l : List α}, (∀ x ∈ l, l.countP (fun y => decide (g y = g x)) = 1) → l.Pairwise fun a b => g a ≠ g b
  | [], _ => .nil
  | a :: l, h => by
    have h0 := h a List.mem_cons_self
    rw [List.countP_cons, if_pos (by simp)] at h0
    have h1 := List.countP_eq_zero.mp (show l.countP (fun y => decide (g y = g a)) = 0 by omega)
    refine List.pairwise_cons.mpr ⟨fun b hb e => h1 b hb (by rw [e]; simp), cnt_pw fun x hx => ?_⟩
    have h2 := h x (List.mem_cons_of_mem _ hx)
    have ne : g a ≠ g x := fun e => h1 x hx (by rw [e]; simp)
    rw [List.countP_cons, if_neg (by simpa using ne)] at h2
    exact h2
end
theorem cut_n (ns : List Int) (i j k : Nat) (h : j ≤ i + k) : ∃ cs : List Int, cutV (ns.map V.int) (some (i : Int)) (some (j : Int)) = cs.map V.int ∧ cs.length ≤ k := by
  unfold cutV
  rw [HT.sIx_nat, HT.sIx_nat, ← List.map_drop, ← List.map_take]
  exact ⟨_, rfl, by rw [List.length_take, List.length_drop]; omega⟩
section
variable {H : Hp} {p p' z z' q q' : Addr}
theorem eqD_p {pts pts' : List (Str × Str)} (h1 : H p = some (.dK (pKV pts))) (h2 : H p' = some (.dK (pKV pts'))) (pm : pts.Perm pts') (nd : (pts'.map (·.1)).Nodup) : EqD K H p p' true := by
  by_cases e : p = p'
  · exact .inl ⟨e, rfl⟩
  · exact eqD_pts e (.inl h1) (.inl h2) pm nd
theorem eqD_t {kvs kvs' : List (Key × V)} {ts ts' : List (Str × Tie)} (h1 : H q = some (.dK kvs)) (h2 : H q' = some (.dK kvs')) (w : TiesIs K H kvs ts) (w' : TiesIs K H kvs' ts') (pm : ts.Perm ts') (nd : (ts'.map (·.1)).Nodup) : EqD K H q q' true := by
  by_cases e : q = q'
  · exact .inl ⟨e, rfl⟩
  · exact eqD_ties e (.inl h1) (.inl h2) w w' pm nd
theorem eqN_web (h : SqT K H z [.ref p, .ref q]) (h' : SqT K H z' [.ref p', .ref q']) (e1 : EqD K H p p' true) (e2 : EqD K H q q' true) (n : Nat) : EqN K H (n + 1) (.ref z) (.ref z') true := by
  by_cases e : z = z'
  · subst e
    exact EqN.of0 (.inr ⟨z, z, rfl, rfl, .inl ⟨rfl, rfl⟩⟩) _
  · refine .inr ⟨z, z', _, _, [true, true], rfl, rfl, e, .inl ⟨h, h'⟩, rfl, rfl, fun j x y b hx hy hb => ?_, rfl⟩
    match j, hx, hy, hb with
    | 0, hx, hy, hb =>
      cases hx; cases hy; cases hb
      exact EqN.of0 (.inr ⟨p, p', rfl, rfl, e1⟩) _
    | 1, hx, hy, hb =>
      cases hx; cases hy; cases hb
      exact EqN.of0 (.inr ⟨q, q', rfl, rfl, e2⟩) _
    | j + 2, hx, _, _ => cases hx
end
theorem three_at (u v z : V) (x : Int) : ∃ y, atI [u, v, z] (x % 3) = some y ∧ (y = u ∨ y = v ∨ y = z) := by
  have h0 : 0 ≤ x % 3 := Int.emod_nonneg _ (by decide)
  have h1 : x % 3 < 3 := Int.emod_lt_of_pos _ (by decide)
  rcases Int.lt_or_le (x % 3) 1 with h | h
  · exact ⟨u, by rw [show x % 3 = ((0 : Nat) : Int) by omega]; exact atI_nat rfl, .inl rfl⟩
  · rcases Int.lt_or_le (x % 3) 2 with h' | h'
    · exact ⟨v, by rw [show x % 3 = ((1 : Nat) : Int) by omega]; exact atI_nat rfl, .inr (.inl rfl)⟩
    · exact ⟨z, by rw [show x % 3 = ((2 : Nat) : Int) by omega]; exact atI_nat rfl, .inr (.inr rfl)⟩
section
variable {P R : Web}
theorem IsO.perm {r r' : List PrS} (o : IsO P R r) (h : r'.Perm r) : IsO P R r' := ⟨(h.map _).nodup_iff.mpr o.nk, (h.map _).nodup_iff.mpr o.nv, fun x hx => (o.wp x (h.mem_iff.mp hx)).mono fun y hy => h.mem_iff.mpr hy⟩
theorem ov_len {r : List PrS} (h : r ∈ ovL P R) : r.length ≤ P.pts.length + P.ts.length := by
  obtain ⟨a, ha, hr⟩ := List.mem_flatMap.mp h
  obtain ⟨b, hb, rfl⟩ := List.mem_map.mp hr
  have h1 := pairL_row ha
  have h2 := pairL_row hb
  unfold PP at h1
  unfold TP at h2
  rw [List.length_map] at h1 h2
  rw [List.length_append]
  omega
theorem row_ok {ls ls0 : List LsT} (ndP : (nmsW P).Nodup) (ndR : (nmsW R).Nodup) (pm : ls.Perm ls0) (pr : Paired OvR ls0 (ovL P R)) {x : LsT} (hx : x ∈ ls) : SrP (x.2.map (·.2)) ∧ IsO P R (x.2.map (·.2)) ∧ x.2.length ≤ P.pts.length + P.ts.length := by
  obtain ⟨i, hi⟩ := List.getElem?_of_mem (pm.mem_iff.mp hx)
  obtain ⟨r, hr, o⟩ := paired_get pr hi
  have hm := List.mem_of_getElem? hr
  refine ⟨o.2, (ov_isO ndP ndR r hm).perm o.1, ?_⟩
  have z := ov_len hm
  rw [← o.1.length_eq, List.length_map] at z
  exact z
theorem rows_lt {ls ls0 : List LsT} (ndP : (nmsW P).Nodup) (ndR : (nmsW R).Nodup) (eP : ∀ x ∈ P.ts, x.2.2.1 ∈ P.pts.map (·.1) ∧ x.2.2.2 ∈ P.pts.map (·.1)) (pm : ls.Perm ls0) (pr : Paired OvR ls0 (ovL P R)) (ris : ls.Pairwise (fun a b => ¬ keyP (b.2.map (·.2)) < keyP (a.2.map (·.2)))) : ls.Pairwise fun a b => keyP (a.2.map (·.2)) < keyP (b.2.map (·.2)) := by
  have h1 : ls.Pairwise fun a b => a.2.map (·.2) ≠ b.2.map (·.2) := cnt_pw (g := fun y : LsT => y.2.map (·.2)) fun x hx => by
    obtain ⟨h1, h2, _⟩ := row_ok ndP ndR pm pr hx
    rw [pm.countP_eq, cnt_ov h1 pr]
    exact cnt_rows h2 ndP ndR eP
  refine List.Pairwise.imp (fun {a b} z => ?_) (ris.and h1)
  exact Classical.byContradiction fun y => z.2 (keyP_inj (kt_anti y z.1))
theorem ov_map : ∀ {l1 l2 : List LsT} {rs : List (List PrS)}, Paired OvR l1 rs → Paired OvR l2 rs → (l1.map fun x => x.2.map (·.2)) = l2.map fun x => x.2.map (·.2)
  | _, _, _, .nil, h => by cases h; rfl
  | _, _, _, .cons h t, h' => by
    cases h' with
    | cons h2 t2 =>
      rw [List.map_cons, List.map_cons, srp_uniq h.2 h2.2 (h.1.trans h2.1.symm), ov_map t t2]
theorem ris_eq {l1 l2 k1 k2 : List LsT} {rs : List (List PrS)} (p1 : l1.Perm k1) (p2 : l2.Perm k2) (q1 : Paired OvR k1 rs) (q2 : Paired OvR k2 rs) (r1 : l1.Pairwise (fun a b => ¬ keyP (b.2.map (·.2)) < keyP (a.2.map (·.2)))) (r2 : l2.Pairwise (fun a b => ¬ keyP (b.2.map (·.2)) < keyP (a.2.map (·.2)))) :
    (l1.map fun x => x.2.map (·.2)) = l2.map fun x => x.2.map (·.2) := by
  refine List.Perm.eq_of_pairwise (le := fun a b => ¬ keyP b < keyP a) (fun x y _ _ g1 g2 => keyP_inj (kt_anti g2 g1)) (List.pairwise_map.mpr r1) (List.pairwise_map.mpr r2) ?_
  refine (p1.map _).trans ?_
  rw [ov_map q1 q2]
  exact (p2.map _).symm
end
theorem rw_eqn {H : Hp} (n : Nat) : ∀ {us vs : List (Addr × PrS)}, us.map (·.2) = vs.map (·.2) → (∀ t ∈ us, SqT K H t.1 [.str t.2.1, .str t.2.2]) → (∀ t ∈ vs, SqT K H t.1 [.str t.2.1, .str t.2.2]) → Paired (fun x y => EqN K H (n + 1) x y true) (us.map fun t => V.ref t.1) (vs.map fun t => V.ref t.1)
  | [], [], _, _, _ => .nil
  | [], _ :: _, h, _, _ => nomatch h
  | _ :: _, [], h, _, _ => nomatch h
  | u :: us, v :: vs, h, h1, h2 => by
    have e := (List.cons.inj h).1
    have s1 := h1 u List.mem_cons_self
    have s2 := h2 v List.mem_cons_self
    rw [show v.2 = u.2 from e.symm] at s2
    exact .cons (eqN_sq (n := n) (.inl ⟨s1, s2⟩) (.cons (eqN_str _ _) (.cons (eqN_str _ _) .nil))) (rw_eqn n (List.cons.inj h).2 (fun t ht => h1 t (List.mem_cons_of_mem _ ht)) fun t ht => h2 t (List.mem_cons_of_mem _ ht))
theorem rows_eq {H : Hp} : ∀ {xs ys : List LsT}, (xs.map fun x => x.2.map (·.2)) = (ys.map fun x => x.2.map (·.2)) → (∀ x ∈ xs, RwAt K H x) → (∀ y ∈ ys, RwAt K H y) → Paired (fun x y => EqN K H 8 x y true) (xs.map fun x => V.ref x.1) (ys.map fun y => V.ref y.1)
  | [], [], _, _, _ => .nil
  | [], _ :: _, h, _, _ => nomatch h
  | _ :: _, [], h, _, _ => nomatch h
  | x :: xs, y :: ys, h, h1, h2 => .cons (eqN_sq (n := 7) (.inr ⟨SqL.of (h1 x List.mem_cons_self).1, SqL.of (h2 y List.mem_cons_self).1⟩) (rw_eqn 6 (List.cons.inj h).1 (h1 x List.mem_cons_self).2 (h2 y List.mem_cons_self).2)) (rows_eq (List.cons.inj h).2 (fun t ht => h1 t (List.mem_cons_of_mem _ ht)) fun t ht => h2 t (List.mem_cons_of_mem _ ht))
def sp__law_asked (K : PySem.W.Frag) : Sp := fun vs H Q _ => ∃ (a : Addr) (ns : List Int) (n : Nat) (c : Int), vs = [.ref a, .int (n : Nat), .int c] ∧ SqL K H a (ns.map V.int) ∧ ns.length ≤ 63 ∧ n ≤ 60 ∧ 0 ≤ c ∧ ∀ H', Same H H' → Q (.bl true) H'
set_option maxHeartbeats 8000000 in
abbrev C__law_asked (P : Program) (w : World) (K : PySem.W.Frag) (mg : Str → Option Value) (base : Heap) : Prop := Cal P w K mg base CX0 10 "_law_asked" ["_law_script", "_law_at", "_law_first"] [] (sp__law_asked K)
theorem ok__law_asked {f : Addr} {fd : FuncData} (T : Txt K mg) (c__law_names : C__law_names P w K mg base) (c__law_mix : C__law_mix P w K mg base) (c__law_cell_at : C__law_cell_at P w K mg base) (c__law_piece : C__law_piece P w K mg base) (c_overlaps : C_overlaps P w K mg base) (c__law_right : C__law_right P w K mg base) (c__law_count : C__law_count P w K mg base) (c__law_all : C__law_all P w K mg base) (F : Fun K "_law_asked" "_law_asked" s__law_asked f fd) : FnOk P w K mg base CX0 10 f fd ["_law_script", "_law_at", "_law_first"] (sp__law_asked K) := by
  refine F.ok sc__law_asked (fun vs H Q E h => ?_) (fun cdv A outer s H vs Q E hr h => ?_)
  · obtain ⟨a, ns, n, c, rfl, _⟩ := h
    rfl
  · obtain ⟨a, ns, n, c, rfl, hA, hl, hn, hc, k⟩ := h
    have hN := sc__law_asked.nd
    have hu := hu_le hr
    refine ⟨_, QSs.r (qsC (qSet (i := 3) hN rfl (by first | exact Or.inl rfl | exact Or.inr rfl) (qC c__law_names (hr.mono (by decide)) pass0 (qa1 (qC c__law_mix (hr.mono (by decide)) pass0 (qa1 (qC c__law_cell_at (hr.mono (by decide)) pass0 (qa1 (qV 0) (qa1 (qV 1) qa0))) (qa1 qInt qa0))) (qa1 qInt qa0))))
      (qsC (qSet (i := 4) hN rfl (by first | exact Or.inl rfl | exact Or.inr rfl) (qV 3))
      (qsC (qIf (qtCmp (kEqW8 K hr) (qOp op_mod (qOp op_fdiv (qV 2) qInt) qInt) qInt (nomark _)) (qs1 (qSet (i := 4) hN rfl (by first | exact Or.inl rfl | exact Or.inr rfl) (qC c__law_names (hr.mono (by decide)) pass0 (qa1 (qC c__law_mix (hr.mono (by decide)) pass0 (qa1 (qC c__law_cell_at (hr.mono (by decide)) pass0 (qa1 (qV 0) (qa1 (qOp (kAdd K) (qV 1) qInt) qa0))) (qa1 qInt qa0))) (qa1 qInt qa0))))) qs0)
      (qsC (qSet (i := 5) hN rfl (by first | exact Or.inl rfl | exact Or.inr rfl) (qIx (kIx K hu) (qLst (qa1 (qLst (qa1 qStr qa0)) (qa1 (qLst (qa1 qStr (qa1 qStr qa0))) (qa1 (qLst (qa1 qStr (qa1 qStr qa0))) qa0)))) (qOp op_mod (qV 2) qInt) (fun _ _ => rfl)))
      (qsC (qSet (i := 6) hN rfl (by first | exact Or.inl rfl | exact Or.inr rfl) (qOp (kAdd K) qInt (qBT call_int1 T.b_int Boot.«int» (qa1 (qCmp (kEqW8 K hr) (qOp op_mod (qOp op_fdiv (qV 2) qInt) qInt) qInt (nomark _)) qa0))))
      (qsC (qSet (i := 7) hN rfl (by first | exact Or.inl rfl | exact Or.inr rfl) (qC c__law_piece (hr.mono (by decide)) pass0 (qa1 (qSl (kSl K) (qV 0) (qoS (qV 1)) (qoS (qOp (kAdd K) (qV 1) qInt))) (qa1 (qV 3) (qa1 (qV 6) (qa1 qInt (qa1 (qV 5) qa0)))))))
      (qsC (qSet (i := 8) hN rfl (by first | exact Or.inl rfl | exact Or.inr rfl) (qC c__law_piece (hr.mono (by decide)) pass0 (qa1 (qSl (kSl K) (qV 0) (qoS (qOp (kAdd K) (qV 1) qInt)) (qoS (qOp (kAdd K) (qV 1) qInt))) (qa1 (qV 4) (qa1 (qV 6) (qa1 qInt (qa1 (qV 5) qa0)))))))
      (qsC (qSet (i := 9) hN rfl (by first | exact Or.inl rfl | exact Or.inr rfl) (qLst (qa1 (qTup (qa1 (qBT (kDict K rfl) T.b_dict Boot.«dict» (qa1 (qIx (kIx K hu) (qV 7) qInt (fun _ _ => rfl)) qa0)) (qa1 (qBT (kDict K rfl) T.b_dict Boot.«dict» (qa1 (qIx (kIx K hu) (qV 7) qInt (fun _ _ => rfl)) qa0)) qa0))) (qa1 (qTup (qa1 (qBT (kDict K rfl) T.b_dict Boot.«dict» (qa1 (qIx (kIx K hu) (qV 8) qInt (fun _ _ => rfl)) qa0)) (qa1 (qBT (kDict K rfl) T.b_dict Boot.«dict» (qa1 (qIx (kIx K hu) (qV 8) qInt (fun _ _ => rfl)) qa0)) qa0))) qa0))))
      (qsC (qSet (i := 10) hN rfl (by first | exact Or.inl rfl | exact Or.inr rfl) (qC c_overlaps (hr.mono (by decide)) pass0 (qa1 (qIx (kIx K hu) (qV 9) qInt (fun _ _ => rfl)) (qa1 (qIx (kIx K hu) (qV 9) qInt (fun _ _ => rfl)) qa0))))
      (qsC (qIf (qtW (qwOr (qtNot (qtTru K (qB (kIsiP K P w) T.b_isinstance Boot.«isinstance» (qa1 (qV 10) (qa1 (qTy "list" T.b_list Boot.«list») qa0))))) (qwOr1 (qtCmp (kNeW8 K hr) (qV 9) (qLst (qa1 (qV 7) (qa1 (qV 8) qa0))) (nomark _))))) (qs1 (qRet qBl)) qs0)
      (qsC (qFor PassesOwn.never rfl (qiR1 T.b_range (qa1 (qB (kLenP K P w) T.b_len Boot.«len» (qa1 (qV 10) qa0)) qa0)) (qgN (i := 11) hN rfl (by first | exact Or.inl rfl | exact Or.inr rfl))
        (qs1 (qIf (qtW (qwOr (qtNot (qtTru K (qC c__law_right (hr.mono (by decide)) pass0 (qa1 (qIx (kIx K hu) (qV 10) (qV 11) (fun _ _ => rfl)) (qa1 (qV 7) (qa1 (qV 8) qa0)))))) (qwOr1 (qtW (qwAnd (qtCmp op_gt (qV 11) qInt (nomark _)) (qwAnd1 (qtCmp (kGeP K hr) (qIx (kIx K hu) (qV 10) (qOp op_sub (qV 11) qInt) (fun _ _ => rfl)) (qIx (kIx K hu) (qV 10) (qV 11) (fun _ _ => rfl)) (nomark _)))))))) (qs1 (qRet qBl)) qs0)))
      (qsC (qIf (qtCmp (kNeW8 K hr) (qB (kLenP K P w) T.b_len Boot.«len» (qa1 (qV 10) qa0)) (qC c__law_count (hr.mono (by decide)) pass0 (qa1 (qV 7) (qa1 (qV 8) (qa1 (qC c__law_all (hr.mono (by decide)) pass0 (qa1 (qV 7) qa0)) (qa1 qD0 qa0))))) (nomark _)) (qs1 (qRet qBl)) qs0)
      (qsC (qSetComp (i := 12) hN rfl (by first | exact Or.inl rfl | exact Or.inr rfl) (own := ["_law_pairs"]) (js := []) (by kernel_rfl) rfl (qiIt K (qV 10)) (fun _ _ _ _ => (qgN (i := 0) (show List.Nodup (["_law_pairs"] : List Str) by decide +kernel) rfl (by first | exact Or.inl rfl | exact Or.inr rfl))) (fun _ _ _ _ => qif0) (fun _ _ _ _ => (qBT (kListV K rfl) T.b_list Boot.«list» (qa1 (qV 0) qa0))))
      (qsC (qFor PassesOwn.never rfl (qiIt K (qV 10)) (qgN (i := 13) hN rfl (by first | exact Or.inl rfl | exact Or.inr rfl))
        (qs1 (qEx (qM0 PySem.F.plainAttrs_list PySem.F.slot_list_clear PySem.F.type_list_clear mt_list_clear0 K (qV 13)))))
      (qsC (qEx (qM0 PySem.F.plainAttrs_list PySem.F.slot_list_clear PySem.F.type_list_clear mt_list_clear0 K (qV 10)))
      (qs1 (qRet (qCmp (kEqW8 K hr) (qC c_overlaps (hr.mono (by decide)) pass0 (qa1 (qIx (kIx K hu) (qV 9) qInt (fun _ _ => rfl)) (qa1 (qIx (kIx K hu) (qV 9) qInt (fun _ _ => rfl)) qa0))) (qV 12) (nomark _))))))))))))))))))), ?_⟩
    refine r_hide fun nx1 hx => ?_
    repeat walk_at "E"
    refine ⟨a, ns, (n : Int), rfl, hA, hl, by omega, fun c0 => ?_⟩
    repeat walk_at "E"
    refine ⟨c0, 90, rfl, by omega, by omega, fun x1 hx1 => ?_⟩
    repeat walk_at "E"
    refine ⟨x1, rfl, hx1, fun l1 H1 sa n1 m1 f1 ⟨ha1, ha2, ha3, ha4⟩ => ?_⟩
    repeat walk_at "E"
    refine hx [some (.ref a), some (.int n), some (.int c), some (.ref l1), none, none, none, none, none, none, none, none, none, none] _ ?_
    clear hx
    refine r_hide fun nx2 hx => ?_
    repeat walk_at "E"
    refine hx [some (.ref a), some (.int n), some (.int c), some (.ref l1), some (.ref l1), none, none, none, none, none, none, none, none, none] _ ?_
    clear hx
    refine r_hide fun nx3 hx => ?_
    suffices go : ∀ (H2 : Hp) (lo : Addr) (sc : List Str), Same H1 H2 → H2 lo = some (.lst (sc.map V.str)) → (sc.length = 6 ∧ sc.Nodup ∧ (∀ s ∈ sc, s.length ≤ 8) ∧ ("?" : Str) ∉ sc) → nx3 [some (.ref a), some (.int n), some (.int c), some (.ref l1), some (.ref lo), none, none, none, none, none, none, none, none, none] H2 by
      repeat walk_at "E"
      refine r_ite (fun h1 => ?_) (fun h1 => ?_)
      · repeat walk_at "E"
        refine ⟨a, ns, (n : Int) + 6, rfl, m1.seq hA, hl, by omega, fun c2 => ?_⟩
        repeat walk_at "E"
        refine ⟨c2, 91, rfl, by omega, by omega, fun x2 hx2 => ?_⟩
        repeat walk_at "E"
        refine ⟨x2, rfl, hx2, fun l2 H2 sb n2 m2 f2 hb => ?_⟩
        repeat walk_at "E"
        exact go H2 l2 sb m2 f2 hb
      · repeat walk_at "E"
        exact go H1 l1 sa (Same.refl _) f1 ⟨ha1, ha2, ha3, ha4⟩
    rintro H2 lo sc m2 f2 ⟨hc1, hc2, hc3, hc4⟩
    refine hx _ _ ?_
    clear hx
    have s2 := m1.trans m2
    have g1 := m2 _ _ f1
    clear f1
    refine r_hide fun nx4 hx => ?_
    repeat walk_at "E"
    refine ⟨small (by simp), fun k1 nk1 => ?_⟩
    obtain ⟨H3, e3, f3, m3, _⟩ := new_at (o := .lst _) nk1
    rw [e3]
    repeat walk_at "E"
    refine ⟨small (by simp), fun k2 nk2 => ?_⟩
    obtain ⟨H4, e4, f4, m4, _⟩ := new_at (o := .lst _) nk2
    rw [e4]
    repeat walk_at "E"
    refine ⟨small (by simp), fun k3 nk3 => ?_⟩
    obtain ⟨H5, e5, f5, m5, _⟩ := new_at (o := .lst _) nk3
    rw [e5]
    repeat walk_at "E"
    refine ⟨small (by simp), fun k4 nk4 => ?_⟩
    obtain ⟨H6, e6, f6, m6, _⟩ := new_at (o := .lst _) nk4
    rw [e6]
    repeat walk_at "E"
    obtain ⟨y, hy, hyy⟩ := three_at (.ref k1) (.ref k2) (.ref k3) c
    refine r_ix_lst (SqL.of f6) hy ?_
    obtain ⟨lk, ks, rfl, hks, hk0, hk2⟩ : ∃ (lk : Addr) (ks : List Str), y = .ref lk ∧ H6 lk = some (.lst (ks.map V.str)) ∧ 0 < ks.length ∧ ks.length ≤ 2 := by
      rcases hyy with rfl | rfl | rfl
      · exact ⟨k1, ["p"], rfl, m6 _ _ (m5 _ _ (m4 _ _ f3)), by decide, by decide⟩
      · exact ⟨k2, ["p", "q"], rfl, m6 _ _ (m5 _ _ f4), by decide, by decide⟩
      · exact ⟨k3, ["po", "poi"], rfl, m6 _ _ f5, by decide, by decide⟩
    have m26 := m3.trans (m4.trans (m5.trans m6))
    have s6 := s2.trans m26
    have g16 := m26 _ _ g1
    have g26 := m26 _ _ f2
    clear hyy hy f3 f4 f5 f6 e6 g1 f2
    repeat walk_at "E"
    refine hx [some (.ref a), some (.int n), some (.int c), some (.ref l1), some (.ref lo), some (.ref lk), none, none, none, none, none, none, none, none] _ ?_
    clear hx
    refine r_hide fun nx5 hx => ?_
    repeat walk_at "E"
    refine .inr ⟨_, rfl, ?_⟩
    repeat walk_at "E"
    obtain ⟨mo, hmo, hmo0, hmo4⟩ : ∃ mo : Int, mo = 3 + (if decide (c / 6 % 4 = 1) = true then 1 else 0) ∧ 0 ≤ mo ∧ mo ≤ 4 := ⟨_, rfl, by split <;> omega, by split <;> omega⟩
    rw [← hmo]
    refine hx [some (.ref a), some (.int n), some (.int c), some (.ref l1), some (.ref lo), some (.ref lk), some (.int mo), none, none, none, none, none, none, none] _ ?_
    clear hx
    refine r_hide fun nx6 hx => ?_
    repeat walk_at "E"
    refine r_sl_lst (s6.seq hA) (fun l7 n7 => ?_)
    obtain ⟨cs, hcs, hcl⟩ := cut_n ns n (n + 6) 6 (Nat.le_refl _)
    rw [show (n : Int) + 6 = ((n + 6 : Nat) : Int) by omega, hcs]
    obtain ⟨H7, e7, f7, m7, _⟩ := new_at (o := .lst (cs.map V.int)) n7
    rw [e7]
    repeat walk_at "E"
    refine ⟨l7, l1, lk, cs, sa, ks, mo, rfl, hmo0, hmo4, SqL.of f7, SqL.of (m7 _ _ g16), SqL.of (m7 _ _ hks), hcl, ha1, hk0, hk2, ha2, fun s hs => Nat.le_trans (ha3 s hs) (by decide), ha4, fun b p q kvs P0 H8 m8 hP hp4 ht4 => ?_⟩
    have m68 := m7.trans m8
    have s8 := s6.trans m68
    have go8 := m68 _ _ g26
    have gk8 := m68 _ _ hks
    clear f7 e7 g16 g26 hks hcs hcl
    repeat walk_at "E"
    refine hx [some (.ref a), some (.int n), some (.int c), some (.ref l1), some (.ref lo), some (.ref lk), some (.int mo), some (.ref b), none, none, none, none, none, none] _ ?_
    clear hx
    refine r_hide fun nx7 hx => ?_
    repeat walk_at "E"
    refine r_sl_lst (s8.seq hA) (fun l9 n9 => ?_)
    obtain ⟨cs, hcs, hcl⟩ := cut_n ns (n + 6) (n + 12) 6 (by omega)
    rw [show (n : Int) + 6 = ((n + 6 : Nat) : Int) by omega, show (n : Int) + 12 = ((n + 12 : Nat) : Int) by omega, hcs]
    obtain ⟨H9, e9, f9, m9, _⟩ := new_at (o := .lst (cs.map V.int)) n9
    rw [e9]
    repeat walk_at "E"
    refine ⟨l9, lo, lk, cs, sc, ks, mo, rfl, hmo0, hmo4, SqL.of f9, SqL.of (m9 _ _ go8), SqL.of (m9 _ _ gk8), hcl, hc1, hk0, hk2, hc2, fun s hs => Nat.le_trans (hc3 s hs) (by decide), hc4, fun b' p' q' kvs' R H10 m10 hR hp4' ht4' => ?_⟩
    have m810 := m9.trans m10
    have s10 := s8.trans m810
    have P10 := hP.same m810
    clear f9 e9 go8 gk8 hP hcs hcl
    repeat walk_at "E"
    refine hx [some (.ref a), some (.int n), some (.int c), some (.ref l1), some (.ref lo), some (.ref lk), some (.int mo), some (.ref b), some (.ref b'), none, none, none, none, none] _ ?_
    clear hx
    refine r_hide fun nx8 hx => ?_
    repeat walk_at "E"
    refine r_ix_tup P10.at_.tup (atI_nat (j := 0) rfl) ?_
    repeat walk_at "E"
    refine d_dict_dic P10.at_.pts (fun h1 nh1 => ?_)
    obtain ⟨H14, e14, f14, m14, _⟩ := new_at (o := .dK (pKV P0.pts)) nh1
    rw [e14]
    repeat walk_at "E"
    refine r_ix_tup (P10.same m14).at_.tup (atI_nat (j := 1) rfl) ?_
    repeat walk_at "E"
    refine d_dict_dic (P10.same m14).at_.ties (fun h2 nh2 => ?_)
    obtain ⟨H15, e15, f15, m15, _⟩ := new_at (o := .dK kvs) nh2
    rw [e15]
    repeat walk_at "E"
    refine ⟨small (by simp), fun w1 nw1 => ?_⟩
    obtain ⟨H16, e16, f16, m16, _⟩ := new_at (o := .tup [.ref h1, .ref h2]) nw1
    rw [e16]
    have s16 := m14.trans (m15.trans m16)
    have g14 := (m15.trans m16) _ _ f14
    have g15 := m16 _ _ f15
    have PW : WebIs 6 K H16 w1 h1 h2 kvs P0 := ⟨⟨SqT.of f16, .inl g14, .inl g15, P10.at_.ts.mono s16.le⟩, g14, g15, ne_of_none f14 nh2, P10.nd, P10.len, P10.ends, P10.nl, P10.qm⟩
    clear f14 f15 f16 e14 e15 e16
    have R16 := hR.same s16
    repeat walk_at "E"
    refine r_ix_tup R16.at_.tup (atI_nat (j := 0) rfl) ?_
    repeat walk_at "E"
    refine d_dict_dic R16.at_.pts (fun h3 nh3 => ?_)
    obtain ⟨H17, e17, f17, m17, _⟩ := new_at (o := .dK (pKV R.pts)) nh3
    rw [e17]
    repeat walk_at "E"
    refine r_ix_tup (R16.same m17).at_.tup (atI_nat (j := 1) rfl) ?_
    repeat walk_at "E"
    refine d_dict_dic (R16.same m17).at_.ties (fun h4 nh4 => ?_)
    obtain ⟨H18, e18, f18, m18, _⟩ := new_at (o := .dK kvs') nh4
    rw [e18]
    repeat walk_at "E"
    refine ⟨small (by simp), fun w2 nw2 => ?_⟩
    obtain ⟨H19, e19, f19, m19, _⟩ := new_at (o := .tup [.ref h3, .ref h4]) nw2
    rw [e19]
    have s1619 := m17.trans (m18.trans m19)
    have g17 := (m18.trans m19) _ _ f17
    have g18 := m19 _ _ f18
    have RW : WebIs 6 K H19 w2 h3 h4 kvs' R := ⟨⟨SqT.of f19, .inl g17, .inl g18, R16.at_.ts.mono s1619.le⟩, g17, g18, ne_of_none f17 nh4, R16.nd, R16.len, R16.ends, R16.nl, R16.qm⟩
    have n13 : h1 ≠ h3 := ne_of_none g14 nh3
    have n24 : h2 ≠ h4 := ne_of_none (m17 _ _ g15) nh4
    clear f17 f18 f19 g17 g18 e17 e18 e19 g14 g15
    have s19 := s16.trans s1619
    repeat walk_at "E"
    refine ⟨small (by simp), fun w3 nw3 => ?_⟩
    obtain ⟨H21, e21, f21, m21, _⟩ := new_at (o := .lst [.ref w1, .ref w2]) nw3
    rw [e21]
    have s1021 := s19.trans m21
    have s21 := s10.trans s1021
    have PW21 := PW.same (s1619.trans m21)
    have RW21 := RW.same m21
    have P21 := P10.same s1021
    have R21 := hR.same s1021
    clear PW RW e21 P10 hR R16
    repeat walk_at "E"
    refine hx [some (.ref a), some (.int n), some (.int c), some (.ref l1), some (.ref lo), some (.ref lk), some (.int mo), some (.ref b), some (.ref b'), some (.ref w3), none, none, none, none] _ ?_
    clear hx
    refine r_hide fun nx9 hx => ?_
    repeat walk_at "E"
    refine r_ix_lst (SqL.of f21) (atI_nat (j := 0) rfl) ?_
    repeat walk_at "E"
    refine r_ix_lst (SqL.of f21) (atI_nat (j := 1) rfl) ?_
    repeat walk_at "E"
    refine ⟨w1, h1, h2, w2, h3, h4, kvs, kvs', P0, R, rfl, PW21, RW21, n13, n24, hp4, ht4, hp4', ht4', fun lf ls ls0 H22 nf m22 ff rw22 ris pm pr => ?_⟩
    have hlt := rows_lt P21.nd R21.nd P21.ends pm pr ris
    have lsl : ls.length ≤ 390625 := by
      rw [pm.length_eq, Paired.length pr]
      unfold ovL
      refine Nat.le_trans (flat_le (m := 625) fun a _ => ?_) ?_
      · rw [List.length_map]
        exact pairL_625 (by unfold TP; rw [List.length_map]; exact ht4) (TP_bd ht4')
      · have z := pairL_625 (pa := PP P0 R) (by unfold PP; rw [List.length_map]; exact hp4) (PP_bd hp4')
        omega
    have hrow : ∀ x ∈ ls, SrP (x.2.map (·.2)) ∧ IsO P0 R (x.2.map (·.2)) ∧ x.2.length ≤ 20 := fun x hx => by
      obtain ⟨h1, h2, h3⟩ := row_ok P21.nd R21.nd pm pr hx
      exact ⟨h1, h2, by omega⟩
    repeat walk_at "E"
    refine hx [some (.ref a), some (.int n), some (.int c), some (.ref l1), some (.ref lo), some (.ref lk), some (.int mo), some (.ref b), some (.ref b'), some (.ref w3), some (.ref lf), none, none, none] _ ?_
    clear hx
    refine r_hide fun nx10 hx => ?_
    repeat walk_at "E"
    refine l_isi (r_isi (t := "list") (.inl ⟨rfl, _, SqL.of ff⟩) (by simp) ?_)
    rw [show isiB "list" "list" = true from rfl]
    repeat walk_at "E"
    refine ⟨small (by simp), fun w4 nw4 => ?_⟩
    obtain ⟨H24, e24, f24, m24, _⟩ := new_at (o := .lst [.ref b, .ref b']) nw4
    rw [e24]
    have s2124 := m22.trans m24
    have P24 := P21.same s2124
    have R24 := R21.same s2124
    have PW24 := PW21.same s2124
    have RW24 := RW21.same s2124
    refine .inr ⟨[true, true], ⟨w3, w4, [.ref w1, .ref w2], [.ref b, .ref b'], rfl, rfl, .inr ⟨SqL.of (s2124 _ _ f21), SqL.of f24⟩, rfl, rfl, fun j x y bb hx hy hb => ?_⟩, ?_⟩
    · match j, hx, hy, hb with
      | 0, hx, hy, hb =>
        cases hx; cases hy; cases hb
        exact eqN_web PW24.at_.tup P24.at_.tup (eqD_p PW24.hp P24.hp (List.Perm.refl _) (nd_pts P24.nd)) (eqD_t PW24.hq P24.hq PW24.at_.ts P24.at_.ts (List.Perm.refl _) (nd_ts P24.nd)) _
      | 1, hx, hy, hb =>
        cases hx; cases hy; cases hb
        exact eqN_web RW24.at_.tup R24.at_.tup (eqD_p RW24.hp R24.hp (List.Perm.refl _) (nd_pts R24.nd)) (eqD_t RW24.hq R24.hq RW24.at_.ts R24.at_.ts (List.Perm.refl _) (nd_ts R24.nd)) _
      | j + 2, hx, _, _ => cases hx
    rw [show (!([true, true] : List Bool).all id) = false from rfl]
    repeat walk_at "E"
    refine hx [some (.ref a), some (.int n), some (.int c), some (.ref l1), some (.ref lo), some (.ref lk), some (.int mo), some (.ref b), some (.ref b'), some (.ref w3), some (.ref lf), none, none, none] _ ?_
    clear hx PW24 RW24
    have ff24 := m24 _ _ ff
    have rw24 : ∀ x ∈ ls, RwAt K H24 x := fun x hx => (rw22 x hx).1.same m24
    refine r_hide fun nx11 hx => ?_
    repeat walk_at "E"
    refine l_len (r_len_lst (SqL.of ff24) ?_)
    rw [List.length_map]
    repeat walk_at "E"
    refine r_rng1v (by omega) (by omega) ?_
    refine for2_b (n := ls.length) (fun i σ H' => Same H24 H' ∧ ∃ v, σ = [some (.ref a), some (.int n), some (.int c), some (.ref l1), some (.ref lo), some (.ref lk), some (.int mo), some (.ref b), some (.ref b'), some (.ref w3), some (.ref lf), v, none, none])
      ⟨Same.refl _, _, rfl⟩ (fun i σ H' hi _ => by show i < _; omega) ?_ ?_
    · rintro bk i v σ H25' H25 hi ⟨m25, v11, rfl⟩ ⟨rfl, rfl⟩
      have hgi : (ls.map fun x => V.ref x.1)[i]? = some (.ref ls[i].1) := by rw [List.getElem?_map, List.getElem?_eq_getElem hi]; rfl
      have him := List.getElem_mem hi
      generalize hy : ls[i] = y at hgi him
      obtain ⟨o1, o2, o3⟩ := hrow y him
      repeat walk_at "E"
      refine r_ix_lst (SqL.of (m25 _ _ ff24)) (i := 0 + (i : Int)) (by rw [Int.zero_add]; exact atI_nat (j := i) hgi) ?_
      repeat walk_at "E"
      refine ⟨y, b, p, q, b', p', q', kvs, kvs', P0, R, rfl, (rw24 y him).same m25, o3, (P24.same m25).at_, P24.nd, by have := P24.len; omega, (R24.same m25).at_, R24.nd, o1, o2, fun H26 m26 => ?_⟩
      have m2426 := m25.trans m26
      repeat walk_at "E"
      refine r_ite (fun hk => ?_) (fun hk => ?_)
      · repeat walk_at "E"
        obtain ⟨j, rfl⟩ : ∃ j, i = j + 1 := ⟨i - 1, by omega⟩
        have hj : j < ls.length := by omega
        have hgj : (ls.map fun x => V.ref x.1)[j]? = some (.ref ls[j].1) := by rw [List.getElem?_map, List.getElem?_eq_getElem hj]; rfl
        have hjm := List.getElem_mem hj
        have hll : keyP (ls[j].2.map (·.2)) < keyP (y.2.map (·.2)) := by
          have z := List.pairwise_iff_getElem.mp hlt j (j + 1) hj hi (by omega)
          rw [hy] at z
          exact z
        refine r_ix_lst (SqL.of (m2426 _ _ ff24)) (i := 0 + ((j + 1 : Nat) : Int) - 1) (by rw [show 0 + ((j + 1 : Nat) : Int) - 1 = (j : Int) by omega]; exact atI_nat (j := j) hgj) ?_
        repeat walk_at "E"
        refine r_ix_lst (SqL.of (m2426 _ _ ff24)) (i := 0 + ((j + 1 : Nat) : Int)) (by rw [Int.zero_add]; exact atI_nat (j := j + 1) hgi) ?_
        have q1 := (rw24 _ hjm).same m2426
        have q2 := (rw24 _ him).same m2426
        refine .inr ⟨ls[j], y, rfl, rfl, ⟨SqL.of q1.1, q1.2⟩, ⟨SqL.of q2.1, q2.2⟩, ?_⟩
        rw [decide_eq_true hll]
        repeat walk_at "E"
        exact ⟨m2426, _, rfl⟩
      · repeat walk_at "E"
        exact ⟨m2426, _, rfl⟩
    rintro σ H25 ⟨m25, v11, rfl⟩
    refine ⟨by show ls.length ≤ _; omega, ?_⟩
    refine hx _ _ ?_
    clear hx hlt
    have P25 := P24.same m25
    have R25 := R24.same m25
    have ff25 := m25 _ _ ff24
    have s2125 := s2124.trans m25
    have rw25 : ∀ x ∈ ls, RwAt K H25 x := fun x hx => (rw24 x hx).same m25
    clear P24 R24 ff24 rw24
    refine r_hide fun nx12 hx => ?_
    repeat walk_at "E"
    refine l_len (r_len_lst (SqL.of ff25) ?_)
    rw [List.length_map]
    repeat walk_at "E"
    refine ⟨b, p, q, kvs, P0, rfl, P25.at_, by have := P25.len; omega, fun la H26 t1 t2 nla m26 fa oa => ?_⟩
    have tl := oa.len
    have tl6 := P25.len
    repeat walk_at "E"
    intro de nde
    obtain ⟨H27, e27, f27, m27, _⟩ := new_at (o := .dK []) nde
    rw [e27]
    have m2527 := m26.trans m27
    repeat walk_at "E"
    refine ⟨b, p, q, b', p', q', la, de, kvs, kvs', P0, R, t1 ++ t2, [], rfl, (P25.same m2527).at_, P25.nd, (R25.same m2527).at_, R25.nd, by have := R25.len; omega, SqL.of (m27 _ _ fa), f27, oa.perm.nodup_iff.mpr P25.nd, fun n hn => oa.mem.mp hn, by rw [List.length_nil]; omega, by omega, fun H28 m28 => ?_⟩
    rw [← enum_len P25.nd R25.nd P25.ends oa, ← Paired.length pr, ← pm.length_eq]
    have m2528 := m2527.trans m28
    repeat walk_at "E"
    rw [if_neg (by simp)]
    repeat walk_at "E"
    refine hx [some (.ref a), some (.int n), some (.int c), some (.ref l1), some (.ref lo), some (.ref lk), some (.int mo), some (.ref b), some (.ref b'), some (.ref w3), some (.ref lf), v11, none, none] _ ?_
    clear hx
    have ff28 := m2528 _ _ ff25
    have s2128 := s2125.trans m2528
    have rw28 : ∀ x ∈ ls, RwAt K H28 x := fun x hx => (rw25 x hx).same m2528
    clear ff25 rw25 P25 R25
    refine r_hide fun nx13 hx => ?_
    repeat walk_at "E"
    refine r_it_lst (SqL.of ff28) ?_
    refine comp2_n (n := ls.length) (fun i out H' => Same H28 H' ∧ ∃ ds : List LsT, out = (ds.map fun y => V.ref y.1) ∧ (ds.map (·.2)) = (ls.take i).map (·.2) ∧ ∀ y ∈ ds, RwAt K H' y ∧ H28 y.1 = none) ⟨Same.refl _, [], rfl, rfl, fun _ h => nomatch h⟩ (fun i out H' hi hp => ⟨_, .ref ls[i].1, SqL.of (hp.1 _ _ ff28), by rw [List.getElem?_map, List.getElem?_eq_getElem hi]; rfl⟩) ?_ ?_
    · rintro N i v out H29' H29 hi ⟨m29, ds, rfl, ed, rd⟩ yy hN'
      obtain ⟨rfl, hxx⟩ := Itl.get yy (SqL.of (m29 _ _ ff28))
      rw [List.getElem?_map, List.getElem?_eq_getElem hi] at hxx
      cases hxx
      have him := List.getElem_mem hi
      have X29 := (rw28 _ him).same m29
      have hT := take_snoc' (List.getElem?_eq_getElem hi)
      generalize ls[i] = y at him X29 hT
      repeat walk_at "E"
      refine ⟨rfl, ?_⟩
      repeat walk_at "E"
      refine v_list (r_list_lst (SqL.of X29.1) (fun ly nly => ?_))
      obtain ⟨H30, e30, f30, m30, _⟩ := new_at (o := .lst (y.2.map fun t => V.ref t.1)) nly
      rw [e30]
      have edl := congrArg List.length ed
      rw [List.length_map, List.length_map, List.length_take] at edl
      refine ⟨small9 (by rw [List.length_map]; omega), hN' _ _ ⟨m29.trans m30, ds ++ [(ly, y.2)], by rw [List.map_append]; rfl, by rw [List.map_append, ed, hT, List.map_append]; rfl, fun z hz => ?_⟩⟩
      rcases List.mem_append.mp hz with h | h
      · exact ⟨(rd z h).1.same m30, (rd z h).2⟩
      · rw [List.mem_singleton.mp h]
        exact ⟨⟨f30, fun t ht => m30.tup (X29.2 t ht)⟩, m29.free nly⟩
    rintro out H29 ⟨m29, ds, rfl, ed, rd⟩
    rw [List.take_of_length_le (Nat.le_refl _)] at ed
    have edl := congrArg List.length ed
    rw [List.length_map, List.length_map] at edl
    refine ⟨⟨_, SqL.of (m29 _ _ ff28), by rw [List.length_map]; exact Nat.le_refl _⟩, fun ldu nldu => ⟨small9 (by rw [List.length_map]; omega), ?_⟩⟩
    obtain ⟨H30, e30, f30, m30, _⟩ := new_at (H := H29) (o := .lst (ds.map fun y => V.ref y.1)) nldu
    change gName _ _ _ (upd H29 ldu (.lst (ds.map fun y => V.ref y.1))) _
    rw [e30]
    have m2830 := m29.trans m30
    have ff30 := m2830 _ _ ff28
    have s2130 := s2128.trans m2830
    have ndl : ∀ x ∈ ls, x.1 ≠ ldu := fun x hx => ne_of_none (m29 _ _ (rw28 x hx).1) nldu
    have nld : lf ≠ ldu := ne_of_none (m29 _ _ ff28) nldu
    have nyx : ∀ y ∈ ds, ∀ x ∈ ls, x.1 ≠ y.1 := fun y hy x hx => ne_of_none (rw28 x hx).1 (rd y hy).2
    have nyf : ∀ y ∈ ds, lf ≠ y.1 := fun y hy => ne_of_none ff28 (rd y hy).2
    repeat walk_at "E"
    refine hx [some (.ref a), some (.int n), some (.int c), some (.ref l1), some (.ref lo), some (.ref lk), some (.int mo), some (.ref b), some (.ref b'), some (.ref w3), some (.ref lf), v11, some (.ref ldu), none] _ ?_
    clear hx
    refine r_hide fun nx14 hx => ?_
    repeat walk_at "E"
    refine r_it_lst (SqL.of ff30) ?_
    refine for2_b (n := ls.length) (fun i σ H' => Same H21 H' ∧ H' lf = some (.lst (ls.map fun x => V.ref x.1)) ∧ H' ldu = some (.lst (ds.map fun y => V.ref y.1)) ∧ (∀ y ∈ ds, RwAt K H' y) ∧ (∀ x ∈ ls, ∃ xs, H' x.1 = some (.lst xs)) ∧ ∃ v, σ = [some (.ref a), some (.int n), some (.int c), some (.ref l1), some (.ref lo), some (.ref lk), some (.int mo), some (.ref b), some (.ref b'), some (.ref w3), some (.ref lf), v11, some (.ref ldu), v])
      ⟨s2130, ff30, f30, fun y hy => (rd y hy).1.same m30, fun x hx => ⟨_, m2830 _ _ (rw28 x hx).1⟩, _, rfl⟩ (fun i σ H' hi hp => ⟨_, .ref ls[i].1, SqL.of hp.2.1, by rw [List.getElem?_map, List.getElem?_eq_getElem hi]; rfl⟩) ?_ ?_
    · rintro bk i v σ H31' H31 hi ⟨s31, g31, d31, r31, c31, v13, rfl⟩ yy
      obtain ⟨rfl, hxx⟩ := Itl.get yy (SqL.of g31)
      rw [List.getElem?_map, List.getElem?_eq_getElem hi] at hxx
      cases hxx
      have him := List.getElem_mem hi
      generalize ls[i] = y at him
      obtain ⟨xs, hxs⟩ := c31 _ him
      repeat walk_at "E"
      refine ⟨.inl ⟨rfl, _, SqL.of hxs⟩, ?_⟩
      refine ⟨_, xs, rfl, rfl, hxs, ?_⟩
      repeat walk_at "E"
      refine ⟨sUpd0 s31 (rw22 _ him).2.2, by rw [upd_ne (rw22 _ him).2.1.symm]; exact g31, by rw [upd_ne (ndl _ him).symm]; exact d31, fun z hz => (r31 z hz).upd hxs (nyx z hz _ him).symm, fun x hx => ?_, _, rfl⟩
      by_cases e : x.1 = y.1
      · exact ⟨[], by rw [e, upd_same]⟩
      · obtain ⟨ys, hys⟩ := c31 x hx
        exact ⟨ys, by rw [upd_ne e]; exact hys⟩
    rintro σ H31 ⟨s31, g31, d31, r31, c31, v13, rfl⟩
    refine ⟨⟨_, SqL.of g31, by rw [List.length_map]; exact Nat.le_refl _⟩, ?_⟩
    refine hx [some (.ref a), some (.int n), some (.int c), some (.ref l1), some (.ref lo), some (.ref lk), some (.int mo), some (.ref b), some (.ref b'), some (.ref w3), some (.ref lf), v11, some (.ref ldu), v13] H31 ?_
    clear hx
    refine r_hide fun nx15 hx => ?_
    repeat walk_at "E"
    refine ⟨.inl ⟨rfl, _, SqL.of g31⟩, ?_⟩
    refine ⟨_, _, rfl, rfl, g31, ?_⟩
    have s32 : Same H21 (upd H31 lf (.lst [])) := sUpd0 s31 nf
    have d32 : (upd H31 lf (.lst [])) ldu = some (.lst (ds.map fun y => V.ref y.1)) := by rw [upd_ne nld.symm]; exact d31
    have r32 : ∀ y ∈ ds, RwAt K (upd H31 lf (.lst [])) y := fun y hy => (r31 y hy).upd g31 (nyf y hy).symm
    generalize upd H31 lf (.lst []) = H32 at s32 d32 r32 ⊢
    repeat walk_at "E"
    refine hx [some (.ref a), some (.int n), some (.int c), some (.ref l1), some (.ref lo), some (.ref lk), some (.int mo), some (.ref b), some (.ref b'), some (.ref w3), some (.ref lf), v11, some (.ref ldu), v13] _ ?_
    clear hx
    repeat walk_at "R"
    refine r_ix_lst (SqL.of (s32 _ _ f21)) (atI_nat (j := 0) rfl) ?_
    repeat walk_at "R"
    refine r_ix_lst (SqL.of (s32 _ _ f21)) (atI_nat (j := 1) rfl) ?_
    repeat walk_at "R"
    refine ⟨w1, h1, h2, w2, h3, h4, kvs, kvs', P0, R, rfl, PW21.same s32, RW21.same s32, n13, n24, hp4, ht4, hp4', ht4', fun lf2 ls2 ls02 H33 nf2 m33 ff2 rw33 ris2 pm2 pr2 => ?_⟩
    repeat walk_at "R"
    have eg : (ls2.map fun x => x.2.map (·.2)) = ds.map fun x => x.2.map (·.2) := by
      rw [ris_eq pm2 pm pr2 pr ris2 ris]
      have z := congrArg (List.map fun u : List (Addr × PrS) => u.map (·.2)) ed
      rw [List.map_map, List.map_map] at z
      exact z.symm
    refine .inr ⟨_, sqN_sq (.inr ⟨SqL.of ff2, SqL.of (m33 _ _ d32)⟩) (rows_eq eg (fun x hx => (rw33 x hx).1) fun y hy => (r32 y hy).same m33), ?_⟩
    rw [all_rep]
    exact k _ (s21.trans (s32.trans m33))
def sp_law (K : PySem.W.Frag) : Sp := fun vs H Q _ => ∃ (a : Addr) (ns : List Int), vs = [.ref a] ∧ SqL K H a (ns.map V.int) ∧ ns.length ≤ 63 ∧ ∀ H', Q (.bl true) H'
theorem ok_law {f : Addr} {fd : FuncData} (T : Txt K mg) (c__law_mix : C__law_mix P w K mg base) (c__law_cell_at : C__law_cell_at P w K mg base) (c__law_asked : C__law_asked P w K mg base) (F : Fun K "law" "law" s_law f fd) : FnOk P w K mg base CX0 11 f fd ["_law_script"] (sp_law K) := by
  refine F.ok sc_law (fun vs H Q E h => ?_) (fun cdv A outer s H vs Q E hr h => ?_)
  · obtain ⟨a, ns, rfl, _⟩ := h
    rfl
  · obtain ⟨a, ns, rfl, hA, hl, k⟩ := h
    have hN := sc_law.nd
    have hu := hu_le hr
    refine ⟨_, QSs.r (qsC (qSet (i := 1) hN rfl (by first | exact Or.inl rfl | exact Or.inr rfl) (qC c__law_mix (hr.mono (by decide)) pass0 (qa1 (qC c__law_cell_at (hr.mono (by decide)) pass0 (qa1 (qV 0) (qa1 qInt qa0))) (qa1 qInt qa0))))
      (qsC (qFor PassesOwn.never rfl (qiR3 T.b_range (qa1 qInt (qa1 (qB (call_max2 rfl) T.b_max Boot.«max» (qa1 qInt (qa1 (qB (call_min2 rfl) T.b_min Boot.«min» (qa1 (qB (kLenP K P w) T.b_len Boot.«len» (qa1 (qV 0) qa0)) (qa1 qInt qa0))) qa0))) (qa1 qInt qa0)))) (qgN (i := 2) hN rfl (by first | exact Or.inl rfl | exact Or.inr rfl))
        (qs1 (qIf (qtNot (qtTru K (qC c__law_asked (hr.mono (by decide)) pass0 (qa1 (qV 0) (qa1 (qV 2) (qa1 (qV 1) qa0)))))) (qs1 (qRet qBl)) qs0)))
      (qs1 (qRet qBl)))), ?_⟩
    repeat walk_at "R"
    refine ⟨a, ns, 0, rfl, hA, hl, by omega, fun c0 => ?_⟩
    repeat walk_at "R"
    refine ⟨c0, 0, rfl, by omega, by omega, fun c hc => ?_⟩
    repeat walk_at "R"
    refine r_rng3 ?_
    repeat walk_at "R"
    refine l_len (r_len_lst hA ?_)
    rw [List.length_map]
    repeat walk_at "R"
    refine ⟨_, _, rfl, ?_⟩
    repeat walk_at "R"
    refine ⟨_, _, rfl, ?_⟩
    repeat walk_at "R"
    obtain ⟨J, hJ, hJ2, hJ9⟩ : ∃ J : Int, J = (if (if (49 : Int) < (ns.length : Int) then 49 else (ns.length : Int)) > 2 then (if (49 : Int) < (ns.length : Int) then 49 else (ns.length : Int)) else 2) ∧ 2 ≤ J ∧ J ≤ 49 := ⟨_, rfl, by split <;> omega, by split <;> (try split) <;> omega⟩
    rw [← hJ]
    obtain ⟨N, hN1, hN4⟩ : ∃ N : Nat, Builtin.Range.rangeSize 1 J 12 = N ∧ N ≤ 4 := by
      refine ⟨((J - 2) / 12 + 1).toNat, ?_, by omega⟩
      unfold Builtin.Range.rangeSize
      rw [if_pos (by decide), if_pos (by omega)]
      omega
    refine ⟨1, J, 12, N, rfl, ⟨by omega, by omega, by omega, by omega, by omega, by omega⟩, hN1, ?_⟩
    refine for2_b (n := N) (fun i σ H' => Same H H' ∧ ∃ v, σ = [some (.ref a), some (.int c), v]) ⟨Same.refl _, _, rfl⟩ (fun i σ H' hi _ => hi) ?_ ?_
    · rintro bk i v σ H2' H2 hi ⟨s2, v2, rfl⟩ ⟨rfl, rfl⟩
      repeat walk_at "R"
      rw [show (1 : Int) + (i : Int) * 12 = ((1 + i * 12 : Nat) : Int) by omega]
      refine ⟨a, ns, 1 + i * 12, c, rfl, s2.seq hA, hl, by omega, hc, fun H3 m3 => ?_⟩
      repeat walk_at "R"
      exact ⟨s2.trans m3, _, rfl⟩
    · rintro σ H2 ⟨s2, v2, rfl⟩
      refine ⟨Nat.le_refl N, ?_⟩
      repeat walk_at "R"
      exact k _
end
theorem all_mk {l : PySem.W.OpenLaw} {w : World} {K : PySem.W.Frag} {h : Heap} {mg : Str → Option Value} {fa f0 f1 f2 f3 f4 f5 f6 f7 f8 f9 f10 f11 f12 f13 f14 f15 f16 : Addr} (X : K.In h) (G : h.Ns mainGlobals mg) (hfa : mg "law" = some (.ref fa))
    (a0 : FnIn K "tie_paired" s_tie_paired f0)
    (a1 : FnIn K "names_of" s_names_of f1)
    (a2 : FnIn K "point_partners" s_point_partners f2)
    (a3 : FnIn K "tie_partners" s_tie_partners f3)
    (a4 : FnIn K "pairings" s_pairings f4)
    (a5 : FnIn K "overlaps" s_overlaps f5)
    (a6 : FnIn K "_law_cell_at" s__law_cell_at f6)
    (a7 : FnIn K "_law_mix" s__law_mix f7)
    (a8 : FnIn K "_law_names" s__law_names f8)
    (a9 : FnIn K "_law_piece" s__law_piece f9)
    (a10 : FnIn K "_law_fits" s__law_fits f10)
    (a11 : FnIn K "_law_may" s__law_may f11)
    (a12 : FnIn K "_law_all" s__law_all f12)
    (a13 : FnIn K "_law_count" s__law_count f13)
    (a14 : FnIn K "_law_right" s__law_right f14)
    (a15 : FnIn K "_law_asked" s__law_asked f15)
    (a16 : FnIn K "law" s_law f16)
    (z_all : PySem.W.nsIn K mainGlobals "all" = some none)
    (z_dict : PySem.W.nsIn K mainGlobals "dict" = some none)
    (z_int : PySem.W.nsIn K mainGlobals "int" = some none)
    (z_isinstance : PySem.W.nsIn K mainGlobals "isinstance" = some none)
    (z_len : PySem.W.nsIn K mainGlobals "len" = some none)
    (z_list : PySem.W.nsIn K mainGlobals "list" = some none)
    (z_max : PySem.W.nsIn K mainGlobals "max" = some none)
    (z_min : PySem.W.nsIn K mainGlobals "min" = some none)
    (z_range : PySem.W.nsIn K mainGlobals "range" = some none)
    (z_sorted : PySem.W.nsIn K mainGlobals "sorted" = some none)
    (z_str : PySem.W.nsIn K mainGlobals "str" = some none)
    (z_tuple : PySem.W.nsIn K mainGlobals "tuple" = some none)
    :
    ∃ fd : FuncData, (∀ (s : Shared) (v : Value), BindsTo s fd ⟨[v], []⟩ [("_law_script", v)]) ∧ ∀ base : Heap, K.In base → base.Ns mainGlobals mg → FnOk l.prog w K mg base CX0 11 fa fd ["_law_script"] (sp_law K) := by
  have T : Txt K mg := ⟨PySem.W.mg_none_of X G z_all, PySem.W.mg_none_of X G z_dict, PySem.W.mg_none_of X G z_int, PySem.W.mg_none_of X G z_isinstance, PySem.W.mg_none_of X G z_len, PySem.W.mg_none_of X G z_list, PySem.W.mg_none_of X G z_max, PySem.W.mg_none_of X G z_min, PySem.W.mg_none_of X G z_range, PySem.W.mg_none_of X G z_sorted, PySem.W.mg_none_of X G z_str, PySem.W.mg_none_of X G z_tuple⟩
  refine law_mk X G hfa a16 (fun {base f fd} F => ?_) fun _ _ _ _ _ _ s v => .of_eq rfl
  have c_tie_paired : C_tie_paired l.prog w K mg base := cal_mk X G a0 (fun F => ok_tie_paired T F) (by walk_at "b")
  have c_names_of : C_names_of l.prog w K mg base := cal_mk X G a1 (fun F => ok_names_of T F) (by walk_at "b")
  have c_pairings : C_pairings l.prog w K mg base := cal_mk X G a4 (fun F => ok_pairings T F) (by walk_at "b")
  have c__law_cell_at : C__law_cell_at l.prog w K mg base := cal_mk X G a6 (fun F => ok__law_cell_at T F) (by walk_at "b")
  have c__law_mix : C__law_mix l.prog w K mg base := cal_mk X G a7 (fun F => ok__law_mix T F) (by walk_at "b")
  have c__law_names : C__law_names l.prog w K mg base := cal_mk X G a8 (fun F => ok__law_names T F) (by walk_at "b")
  have c__law_fits : C__law_fits l.prog w K mg base := cal_mk X G a10 (fun F => ok__law_fits T F) (by walk_at "b")
  have c__law_all : C__law_all l.prog w K mg base := cal_mk X G a12 (fun F => ok__law_all T F) (by walk_at "b")
  have c_point_partners : C_point_partners l.prog w K mg base := cal_mk X G a2 (fun F => ok_point_partners T c_names_of F) (by walk_at "b")
  have c_tie_partners : C_tie_partners l.prog w K mg base := cal_mk X G a3 (fun F => ok_tie_partners T c_names_of c_tie_paired F) (by walk_at "b")
  have c__law_piece : C__law_piece l.prog w K mg base := cal_mk X G a9 (fun F => ok__law_piece T c__law_mix F) (by walk_at "b")
  have c__law_may : C__law_may l.prog w K mg base := cal_mk X G a11 (fun F => ok__law_may T c__law_fits F) (by walk_at "b")
  have c__law_right : C__law_right l.prog w K mg base := cal_mk X G a14 (fun F => ok__law_right T c__law_all c__law_fits F) (by walk_at "b")
  have c_overlaps : C_overlaps l.prog w K mg base := cal_mk X G a5 (fun F => ok_overlaps T c_pairings c_point_partners c_tie_partners F) (by walk_at "b")
  have r__law_count : ∀ m9, Cal l.prog w K mg base CX0 (2 + m9) "_law_count" ["_law_piece_here", "_law_other", "_law_names_here", "_law_there"] [] (sp__law_count K m9) := fun m9 => by
    induction m9 with
    | zero => exact cal_mk X G a13 (fun F => ok0__law_count F (no__law_count K)) (by walk_at "b")
    | succ m9 ih => exact cal_mk X G a13 (fun F => ok__law_count T ih c__law_all c__law_may F) (by walk_at "b")
  have c__law_count : C__law_count l.prog w K mg base := r__law_count 7
  have c__law_asked : C__law_asked l.prog w K mg base := cal_mk X G a15 (fun F => ok__law_asked T c__law_names c__law_mix c__law_cell_at c__law_piece c_overlaps c__law_right c__law_count c__law_all F) (by walk_at "b")
  exact ok_law T c__law_mix c__law_cell_at c__law_asked F
theorem walk {l : PySem.W.OpenLaw} {q : Program} {loose : List Str} {XP : (Str → Option Value) → Heap → Prop} {YP : World → Heap → Prop} {d : DefRec} {K : Params → PySem.W.Frag} (hn : l.most = some 63) (hdf : d.params.defaults = [])
    (hY : ∀ (w : World) (h : Heap), YP w h → (K w.params).In h)
    (F : ∀ (w : World) (mg : Str → Option Value) (fa : Addr) (h : Heap), (K w.params).In h → h.Ns mainGlobals mg → mg d.name = some (.ref fa) →
      ∃ fd : FuncData, (∀ (s : Shared) (u : Value), BindsTo s fd ⟨[u], []⟩ [("_law_script", u)]) ∧ ∀ base : Heap, (K w.params).In base → base.Ns mainGlobals mg → FnOk l.prog w (K w.params) mg base CX0 11 fa fd ["_law_script"] (sp_law (K w.params))) :
    PySem.W.WalkO q loose XP YP l.row.toRowW d [] (fun f vs => PySem.call f vs) :=
  L2.walk_of (n := 63) (k := 11) (x := "_law_script") (CX := fun _ => CX0) (sp := fun w => sp_law (K w.params)) hn (by decide) hdf ⟨rfl, by decide, by decide⟩ hY F (fun _ _ a ns hl _ hS => ⟨a, ns, rfl, hS, hl, fun _ => rfl⟩) fun _ _ _ _ _ z => z
end K41
open PySem PySem.W PyProof.Rows
local macro_rules | `(tactic| walk_at "F") => `(tactic| (refine' L2.FnIn.mk' ?a ?l ?c ?k; (case a => k_is); (case l => k_is); (case c => k_is); (case k => k_is)))
set_option maxRecDepth 100000 in
set_option maxHeartbeats 0 in
theorem PySem.Challenge.cw_gluework_k41_overlaps_each_once_holds : PySem.Challenge.rw_gluework_k41_overlaps_each_once.Holds := by
  w_on; o_law; k_head; (case hw => w_witness2)
  k_fill
  refine K41.walk (l := PySem.Challenge.rw_gluework_k41_overlaps_each_once) rfl rfl (fun w h Y => PySem.W.kIn_of Y) ?F
  case F =>
    intro w mg fa h KX G hmg
    refine' K41.all_mk KX G hmg ?a0 ?a1 ?a2 ?a3 ?a4 ?a5 ?a6 ?a7 ?a8 ?a9 ?a10 ?a11 ?a12 ?a13 ?a14 ?a15 ?a16 ?z_all ?z_dict ?z_int ?z_isinstance ?z_len ?z_list ?z_max ?z_min ?z_range ?z_sorted ?z_str ?z_tuple
    (case a0 => walk_at "F")
    (case a1 => walk_at "F")
    (case a2 => walk_at "F")
    (case a3 => walk_at "F")
    (case a4 => walk_at "F")
    (case a5 => walk_at "F")
    (case a6 => walk_at "F")
    (case a7 => walk_at "F")
    (case a8 => walk_at "F")
    (case a9 => walk_at "F")
    (case a10 => walk_at "F")
    (case a11 => walk_at "F")
    (case a12 => walk_at "F")
    (case a13 => walk_at "F")
    (case a14 => walk_at "F")
    (case a15 => walk_at "F")
    (case a16 => walk_at "F")
    (case z_all => k_is)
    (case z_dict => k_is)
    (case z_int => k_is)
    (case z_isinstance => k_is)
    (case z_len => k_is)
    (case z_list => k_is)
    (case z_max => k_is)
    (case z_min => k_is)
    (case z_range => k_is)
    (case z_sorted => k_is)
    (case z_str => k_is)
    (case z_tuple => k_is)
