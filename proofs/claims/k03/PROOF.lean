import PyProof.Rows.All
import Wide.All
import OpenK.AllK
import Wide.FinOn
import Lean
import PyProof.EqAt
import PyProof.EqKinds
import PyProof.TupleCall
import PyProof.ReprRoads
import PyProof.EqLayable
import PyProof.NeData
import PyProof.Rows.TupDisplay
import PySem.Challenge.RW_landsentered_k03_shapes_made
set_option Elab.async false
set_option linter.all false
set_option maxRecDepth 100000
set_option compiler.extract_closed false
set_option bootstrap.genMatcherCode false
namespace L2
open PySem PySem.Spec PyProof.Rows
noncomputable abbrev Key := Sum Int Str
noncomputable def OW : Key → Value → Bool
 | .inl k, v => Value.isInt k v
 | .inr x, v => Value.isStrOf x v
noncomputable def Za2 (w : World) : Key → Int
 | .inl k => hashInt k
 | .inr x => hashStr w x
theorem ZC : ∀ {k : Key} {v : Value}, OW k v = true → (∃ i t, k = Sum.inl i ∧ v = Value.int i t) ∨ (∃ x t, k = Sum.inr x ∧ v = Value.str x t)
 | .inl i, v, h => by
  obtain ⟨t, e⟩ := Value.isInt_shape (k := i) (v := v) h
  exact .inl ⟨i, t, rfl, e⟩
 | .inr x, v, h => by
  obtain ⟨t, e⟩ := Value.isStrOf_shape (x := x) (v := v) h
  exact .inr ⟨x, t, rfl, e⟩
theorem Nr (a b : Int) : decide ((Sum.inl a : Key) = Sum.inl b) = (a == b) := by
 by_cases e : a = b
 ·subst e; simp
 ·have h : ¬ (Sum.inl a : Key) = Sum.inl b := fun q => e (Sum.inl.inj q)
  rw [decide_eq_false h]
  exact (beq_eq_false_iff_ne.mpr e).symm
theorem NZ (a b : Str) : decide ((Sum.inr a : Key) = Sum.inr b) = decide (a = b) := by
 by_cases e : a = b
 ·subst e; simp
 ·have h : ¬ (Sum.inr a : Key) = Sum.inr b := fun q => e (Sum.inr.inj q)
  rw [decide_eq_false h, decide_eq_false e]
theorem Nt (a : Int) (b : Str) : decide ((Sum.inl a : Key) = Sum.inr b) = false := decide_eq_false (fun q => nomatch q)
theorem PB (a : Str) (b : Int) : decide ((Sum.inr a : Key) = Sum.inl b) = false := decide_eq_false (fun q => nomatch q)
noncomputable def Ys (prog : Program) (w : World) : PySem.KeyKind prog w Key where
 is := OW
 hash := Za2 w
 inj := fun v a b ha hb => by
  rcases ZC ha with ⟨i, t, rfl, rfl⟩ | ⟨x, t, rfl, rfl⟩
  ·rcases ZC hb with ⟨j, u, rfl, e⟩ | ⟨y, u, rfl, e⟩
   ·injection e with e1 _; rw [e1]
   ·exact nomatch e
  ·rcases ZC hb with ⟨j, u, rfl, e⟩ | ⟨y, u, rfl, e⟩
   ·exact nomatch e
   ·injection e with e1 _; rw [e1]
 byValue := fun k v h => by
  rcases ZC h with ⟨i, t, rfl, rfl⟩ | ⟨x, t, rfl, rfl⟩ <;> rfl
 pyHash := fun hv h => by
  rcases ZC hv with ⟨i, t, rfl, rfl⟩ | ⟨x, t, rfl, rfl⟩
  ·exact wpAny_pyHash_int h
  ·exact wpAny_pyHash_str h
 eqBool := fun hu hv h => by
  rcases ZC hu with ⟨i, t, rfl, rfl⟩ | ⟨x, t, rfl, rfl⟩
  ·rcases ZC hv with ⟨j, u, rfl, rfl⟩ | ⟨y, u, rfl, rfl⟩
   ·rw [Nr] at h; exact wpAny_eqBool_int h
   ·rw [Nt] at h; exact SeqAt.EqAt.int_str i t y u _ _ _ _ h
  ·rcases ZC hv with ⟨j, u, rfl, rfl⟩ | ⟨y, u, rfl, rfl⟩
   ·rw [PB] at h; exact SeqAt.EqAt.str_int x t j u _ _ _ _ h
   ·rw [NZ] at h; exact wpAny_eqBool_str h
 «strs» := fun k x t v h => by
  rcases ZC h with ⟨i, u, rfl, e⟩ | ⟨y, u, rfl, e⟩
  ·exact nomatch e
  ·injection e with e1 _
   subst e1
   cases v <;> rfl
end L2
namespace L2
open PySem PySem.Spec PyProof.Rows
inductive V where
 | non | bl (b : Bool) | int (i : Int) | str (x : Str) | byt (b : Array UInt8) | flt (b : UInt64) | ref (a : Addr) | ty (n : String)
 deriving DecidableEq
noncomputable def RelV : V → Value → Prop
 | .non, u => u = Value.none
 | .bl b, u => u = Value.bool b
 | .int i, u => ∃ t, u = Value.int i t
 | .str x, u => ∃ t, u = Value.str x t
 | .byt b, u => ∃ t, u = Value.bytes b t
 | .flt b, u => ∃ t, u = Value.float b t
 | .ref a, u => u = Value.ref a
 | .ty n, u => u = Value.type n
noncomputable abbrev Vals : List V → List Value → Prop := Paired RelV
theorem Vals.length {xs : List V} {us : List Value} (r : Vals xs us) : xs.length = us.length := Paired.length r
theorem Vals.get : ∀ {xs : List V} {us : List Value} {i : Nat} {x : V}, Vals xs us → xs[i]? = some x → ∃ u, us[i]? = some u ∧ RelV x u
 | _, _, _, _, .nil, e => by simp at e
 | _, _, 0, _, .cons r _, e => by simp at e; subst e; exact ⟨_, rfl, r⟩
 | _, _, i + 1, x, .cons _ t, e => by
  obtain ⟨u, h1, h2⟩ := Vals.get (i := i) (x := x) t (by simpa using e)
  exact ⟨u, by simpa using h1, h2⟩
theorem Vals.set {x : V} {u : Value} (r : RelV x u) : ∀ {xs : List V} {us : List Value} (i : Nat), Vals xs us → Vals (xs.set i x) (us.set i u)
 | _, _, _, .nil => .nil
 | _, _, 0, .cons _ t => .cons r t
 | _, _, i + 1, .cons q t => .cons q (Vals.set r i t)
theorem Vals.append : ∀ {xs ys : List V} {us ws : List Value}, Vals xs us → Vals ys ws → Vals (xs ++ ys) (us ++ ws)
 | _, _, _, _, .nil, s => s
 | _, _, _, _, .cons r t, s => .cons r (Vals.append t s)
theorem Vals.take : ∀ {xs : List V} {us : List Value} (n : Nat), Vals xs us → Vals (xs.take n) (us.take n)
 | _, _, 0, _ => .nil
 | _, _, _ + 1, .nil => .nil
 | _, _, n + 1, .cons r t => .cons r (Vals.take n t)
theorem Vals.drop : ∀ {xs : List V} {us : List Value} (n : Nat), Vals xs us → Vals (xs.drop n) (us.drop n)
 | _, _, 0, r => r
 | _, _, _ + 1, .nil => .nil
 | _, _, n + 1, .cons _ t => Vals.drop n t
noncomputable def L3 : Option V → Option Value → Prop
 | some v, some u => RelV v u
 | none, none => True
 | _, _ => False
noncomputable def KV {κ : Type} : List (κ × V) → List (κ × Value) → Prop := Paired fun (p : κ × V) (q : κ × Value) => p.1 = q.1 ∧ RelV p.2 q.2
noncomputable def kV : Key → V
 | .inl i => .int i
 | .inr x => .str x
inductive HO where
  | lst (xs : List V)
  | tup (xs : List V)
  | dK (kvs : List (Key × V)) | dT (kvs : List (List Key × V))
  | set (S : Int → Bool) (n : Nat)
  | ins (C dx : Addr) (fs : List (Str × V))
  | own (x : Addr)
  | xd (fs : List (Str × V))
  | met (f x : Addr)
  | rng (lo hi : Int)
  | frz (o : Obj) (u : HO)
  | tbl (ps : Array Value)
  | ext (φ : Heap → Prop)
noncomputable abbrev Hp := Addr → Option HO
noncomputable def upd (H : Hp) (a : Addr) (o : HO) : Hp := fun b => if b = a then some o else H b
theorem Qe {H : Hp} {a : Addr} {o : HO} : upd H a o a = some o := by unfold upd; rw [if_pos rfl]
theorem ZA {H : Hp} {a b : Addr} {o : HO} (h : b ≠ a) : upd H a o b = H b := by unfold upd; rw [if_neg h]
theorem Zo {H : Hp} {a b : Addr} {o : HO} (h : H a = some o) (h' : H b = none) : a ≠ b := by
 intro e; subst e; rw [h] at h'; cases h'
section
variable (P : Program) (w : World)
noncomputable def Qp (H : Hp) (h : Heap) (a : Addr) : HO → Prop
 | .lst xs => xs.length ≤ sizeLine ∧ ∃ (its : List Value) (n : Nat), Vals xs its ∧ h.get? a = some { cls := .type "list", data := .seq its.toArray n }
 | .tup xs => xs.length ≤ sizeLine ∧ ∃ its : List Value, Vals xs its ∧ IsTup h a its.toArray
 | .dK kvs => kvs.length ≤ sizeLine ∧ (a == sysModules) = false ∧ ∃ vs, KV kvs vs ∧ h.DictOf (Ys P w) a vs
 | .dT kvs => kvs.length ≤ sizeLine ∧ (a == sysModules) = false ∧ ∃ xs : List (List Key × Addr × Value),
   Paired (fun (p : List Key × V) (q : List Key × Addr × Value) => p.1 = q.1 ∧ H q.2.1 = some (.tup (p.1.map kV)) ∧ RelV p.2 q.2.2) kvs xs ∧
   ∃ o es ep, h.get? a = some o ∧ o.ExactDict ∧ o.data = .dict es ep ∧ es.toList = xs.map (entryOfKey (tupleKind (Ys P w))) ∧ (xs.map (·.1)).Nodup
 | .set S n => h.SetOf (intKind P w) a S n
 | .ins C dx fs => H dx = some (.own a) ∧ fs.length ≤ 1000 ∧ dx ≠ a ∧ h.get? a = some (PySem.W.instObj C dx) ∧
   ∃ mA, h.Ns1 dx mA ∧ (∀ f, L3 (fs.lookup f) (mA f)) ∧ PySem.Within mA (fs.map (·.1))
 | .own _ => ∃ o, h.get? a = some o
 | .xd fs => ∃ mA, h.Ns1 a mA ∧ ∀ f, L3 (fs.lookup f) (mA f)
 | .rng lo hi => ∃ t u v, h.get? a = some { cls := .type "range", data := .fields #[.int lo t, .int hi u, .int 1 v] }
 | .frz o u => h.get? a = some o ∧ Qp H h a u
 | .tbl ps => h.get? a = some { cls := .none, data := .fields ps }
 | .met f x => h.get? a = some (PySem.W.methodObj (.ref f) (.ref x))
 | .ext φ => φ h ∧ (∃ o, h.get? a = some o) ∧ ∀ h1 h2 : Heap, φ h1 → (∀ o, h1.get? a = some o → h2.get? a = some o) → φ h2
noncomputable def HOk (H : Hp) (h : Heap) : Prop := ∀ a o, H a = some o → Qp P w H h a o
end
section
variable {P : Program} {w : World} {H H' : Hp} {h h' : Heap} {a : Addr} {o : HO}
theorem Qp.lt (x : Qp P w H h a o) : a < h.objs.size := by
 cases o with
 | lst xs => obtain ⟨_, _, _, _, e⟩ := x; exact Heap.lt_size e
 | tup xs => obtain ⟨_, _, _, p⟩ := x; exact p.lt
 | dK kvs => obtain ⟨_, _, _, _, o, _, _, e, _⟩ := x; exact Heap.lt_size e
 | dT kvs => obtain ⟨_, _, _, _, o, _, _, e, _⟩ := x; exact Heap.lt_size e
 | set S n => obtain ⟨o, _, _, _, e, _⟩ := x; exact Heap.lt_size e
 | ins C dx fs => obtain ⟨_, _, _, e, _⟩ := x; exact Heap.lt_size e
 | own y => obtain ⟨_, e⟩ := x; exact Heap.lt_size e
 | xd fs => obtain ⟨_, ⟨_, _, _, e, _⟩, _⟩ := x; exact Heap.lt_size e
 | rng lo hi => obtain ⟨_, _, _, e⟩ := x; exact Heap.lt_size e
 | frz ob u => obtain ⟨e, _⟩ := x; exact Heap.lt_size e
 | tbl ps => exact Heap.lt_size (show h.get? a = some _ from x)
 | met f y => exact Heap.lt_size (show h.get? a = some _ from x)
 | ext φ => obtain ⟨_, ⟨_, e⟩, _⟩ := x; exact Heap.lt_size e
theorem Paired.L6 {α β : Type} {F G : α → β → Prop} : ∀ {l₁ : List α} {l₂ : List β}, Paired F l₁ l₂ → (∀ a b, F a b → G a b) → Paired G l₁ l₂
 | _, _, .nil, _ => .nil
 | _, _, .cons r t, f => .cons (f _ _ r) (Paired.L6 t f)
theorem Qp.L9 (x : Qp P w H h a o) (k : ∀ b u, (b = a ∨ H b = some (.own a)) → h.get? b = some u → h'.get? b = some u)
  (ho : ∀ b, H b = some (.own a) → H' b = some (.own a)) (ht : ∀ b xs, H b = some (.tup xs) → H' b = some (.tup xs)) : Qp P w H' h' a o := by
 induction o with
 | lst xs => obtain ⟨z, its, n, r, e⟩ := x; exact ⟨z, its, n, r, k _ _ (.inl rfl) e⟩
 | tup xs => obtain ⟨z, its, r, ob, e, c⟩ := x; exact ⟨z, its, r, ob, k _ _ (.inl rfl) e, c⟩
 | dK kvs => obtain ⟨z, y, vs, r, ob, es, ep, e, c⟩ := x; exact ⟨z, y, vs, r, ob, es, ep, k _ _ (.inl rfl) e, c⟩
 | dT kvs =>
  obtain ⟨z, y, xs, r, ob, es, ep, e, c⟩ := x
  exact ⟨z, y, xs, Paired.L6 r fun p q z => ⟨z.1, ht _ _ z.2.1, z.2.2⟩, ob, es, ep, k _ _ (.inl rfl) e, c⟩
 | set S n => obtain ⟨ob, es, ep, t, e, c⟩ := x; exact ⟨ob, es, ep, t, k _ _ (.inl rfl) e, c⟩
 | ins C dx fs =>
  obtain ⟨d, z, ne, e, mA, ⟨od, es, ep, e2, c⟩, r⟩ := x
  exact ⟨ho _ d, z, ne, k _ _ (.inl rfl) e, mA, ⟨od, es, ep, k _ _ (.inr d) e2, c⟩, r⟩
 | own y => obtain ⟨ob, e⟩ := x; exact ⟨ob, k _ _ (.inl rfl) e⟩
 | xd fs => obtain ⟨mA, ⟨od, es, ep, e, c⟩, r⟩ := x; exact ⟨mA, ⟨od, es, ep, k _ _ (.inl rfl) e, c⟩, r⟩
 | rng lo hi => obtain ⟨t, u, v, e⟩ := x; exact ⟨t, u, v, k _ _ (.inl rfl) e⟩
 | frz ob u ih => obtain ⟨e, q⟩ := x; exact ⟨k _ _ (.inl rfl) e, ih q⟩
 | tbl ps =>
  have e : h.get? a = some { cls := .none, data := .fields ps } := x
  show h'.get? a = some { cls := .none, data := .fields ps }
  exact k a _ (.inl rfl) e
 | met f y =>
  have e : h.get? a = some (PySem.W.methodObj (.ref f) (.ref y)) := x
  show h'.get? a = some (PySem.W.methodObj (.ref f) (.ref y))
  exact k a _ (.inl rfl) e
 | ext φ => obtain ⟨p, ⟨o, e⟩, st⟩ := x; exact ⟨st _ _ p fun o q => k _ _ (.inl rfl) q, ⟨o, k _ _ (.inl rfl) e⟩, st⟩
theorem HOk.lt (x : HOk P w H h) (e : H a = some o) : a < h.objs.size := (x a o e).lt
theorem HOk.fresh (x : HOk P w H h) (e : h.objs.size ≤ a) : H a = none := by
 cases q : H a with
 | none => rfl
 | some u => exact absurd (Nat.lt_of_lt_of_le (x.lt q) e) (Nat.lt_irrefl _)
theorem HOk.kept (x : HOk P w H h) (k : ∀ b u, h.get? b = some u → h'.get? b = some u) : HOk P w H h' := fun a o e =>
 (x a o e).L9 (fun b u _ q => k b u q) (fun _ q => q) fun _ _ q => q
theorem HOk.laid (x : HOk P w H h) (k : ∀ b u, h.get? b = some u → h'.get? b = some u) (hp : h.objs.size ≤ a) (new : Qp P w (upd H a o) h' a o) : HOk P w (upd H a o) h' := fun b u e => by
 have hn := x.fresh hp
 by_cases hb : b = a
 ·subst hb; rw [Qe] at e; cases e; exact new
 ·rw [ZA hb] at e
  exact (x b u e).L9 (fun c v _ q => k c v q) (fun c q => by rw [ZA (Zo q hn)]; exact q) fun c xs q => by rw [ZA (Zo q hn)]; exact q
end
noncomputable def Rd (H : Hp) (a : Addr) (u : HO) : Prop := H a = some u ∨ ∃ o, H a = some (.frz o u)
theorem Rd.of {H : Hp} {a : Addr} {u : HO} (h : H a = some u) : Rd H a u := .inl h
theorem Rd.ok {P : Program} {w : World} {H : Hp} {h : Heap} {a : Addr} {u : HO} (r : Rd H a u) (x : HOk P w H h) : Qp P w H h a u := by
 rcases r with r | ⟨o, r⟩
 ·exact x a u r
 ·obtain ⟨_, q⟩ := x a _ r
  exact q
noncomputable def Mut : Option HO → Prop
 | some (.lst _) => True
 | some (.dK _) => True
 | some (.dT _) => True
 | some (.set _ _) => True
 | some (.ins _ _ _) => True
 | some (.ext _) => True
 | _ => False
section
variable {P : Program} {w : World} {H : Hp} {h h' : Heap} {x e : Addr} {o' : HO}
theorem HOk.write (ok : HOk P w H h) (mu : Mut (H x)) (he : e = x ∨ H e = some (.own x)) (k : ∀ b u, b ≠ e → h.get? b = some u → h'.get? b = some u) (heo : ∃ u, h'.get? e = some u)
  (new : Qp P w (upd H x o') h' x o') : HOk P w (upd H x o') h' := fun b u q => by
 have nown : ∀ c y, H c = some (.own y) → c ≠ x := fun c y r z => by subst z; rw [r] at mu; exact mu
 have ntup : ∀ c xs, H c = some (.tup xs) → c ≠ x := fun c xs r z => by subst z; rw [r] at mu; exact mu
 by_cases hb : b = x
 ·subst hb; rw [Qe] at q; cases q; exact new
 ·rw [ZA hb] at q
  by_cases hbe : b = e
  ·have q' : H b = some (.own x) := by
    rcases he with z | z
    ·exact absurd (hbe.trans z) hb
    ·rw [hbe]; exact z
   rw [q] at q'; cases q'
   obtain ⟨v, hv⟩ := heo
   exact ⟨v, by rw [hbe]; exact hv⟩
  ·refine (ok b u q).L9 (fun c v hc r => k c v ?_ r) (fun c r => by rw [ZA (nown c b r)]; exact r) fun c xs r => by rw [ZA (ntup c xs r)]; exact r
   rcases hc with rfl | hc
   ·exact hbe
   ·rintro rfl
    rcases he with z | z
    ·exact nown c b hc z
    ·rw [hc] at z; cases z; exact hb rfl
end
structure Un (fs ex : List Addr) (H H' : Hp) (h h' : Heap) : Prop where
 keep : ∀ b o, h.get? b = some o → H b = none → b ∉ fs → b ∉ ex → h'.get? b = some o
 slot : ∀ b o, h.get? b = some o → H b = none → b ∈ fs → b ∉ ex → ∃ sl, h'.get? b = some { o with slots := sl }
 free : ∀ b o, h.get? b = some o → H b = none → b ∉ ex → H' b = none
 there : ∀ b o, h.get? b = some o → b ∉ ex → ∃ o', h'.get? b = some o'
 tups : ∀ b xs, H b = some (.tup xs) → H' b = some (.tup xs)
 frzs : ∀ b o u, H b = some (.frz o u) → H' b = some (.frz o u)
 tbls : ∀ b ps, H b = some (.tbl ps) → ∃ more, H' b = some (.tbl (ps ++ more))
section
variable {fs fs' ex ex' : List Addr} {H H1 H2 : Hp} {h h1 h2 h' : Heap} {a x e : Addr} {o : HO}
theorem Un.any (u : Un fs ex H H1 h h1) {b : Addr} {ob : Obj} (q : h.get? b = some ob) (n : H b = none) (hx : b ∉ ex) : ∃ sl, h1.get? b = some { ob with slots := sl } := by
 by_cases hb : b ∈ fs
 ·exact u.slot b ob q n hb hx
 ·exact ⟨ob.slots, u.keep b ob q n hb hx⟩
theorem Un.trans (a : Un fs ex H H1 h h1) (b : Un fs ex H1 H2 h1 h2) : Un fs ex H H2 h h2 where
 keep := fun c ob q n hc hx => b.keep c ob (a.keep c ob q n hc hx) (a.free c ob q n hx) hc hx
 slot := fun c ob q n hc hx => by
  obtain ⟨sl, e1⟩ := a.slot c ob q n hc hx
  obtain ⟨sl', e2⟩ := b.slot c _ e1 (a.free c ob q n hx) hc hx
  exact ⟨sl', e2⟩
 free := fun c ob q n hx => by
  obtain ⟨o', e1⟩ := a.there c ob q hx
  exact b.free c o' e1 (a.free c ob q n hx) hx
 there := fun c ob q hx => by
  obtain ⟨o', e1⟩ := a.there c ob q hx
  exact b.there c o' e1 hx
 tups := fun c xs q => b.tups c xs (a.tups c xs q)
 frzs := fun c ob xs q => b.frzs c ob xs (a.frzs c ob xs q)
 tbls := fun c ps q => by
  obtain ⟨m1, e1⟩ := a.tbls c ps q
  obtain ⟨m2, e2⟩ := b.tbls c _ e1
  exact ⟨m1 ++ m2, by rw [e2, Array.append_assoc]⟩
theorem Un.kept (k : ∀ b u, h.get? b = some u → h'.get? b = some u) : Un fs ex H H h h' :=
 ⟨fun b ob q _ _ _ => k b ob q, fun b ob q _ _ _ => ⟨ob.slots, k b ob q⟩, fun _ _ _ n _ => n, fun b ob q _ => ⟨ob, k b ob q⟩, fun _ _ q => q, fun _ _ _ q => q, fun _ ps q => ⟨#[], by rw [q]; simp⟩⟩
theorem Un.refl : Un fs ex H H h h := Un.kept fun _ _ q => q
theorem Un.laid (k : ∀ b u, h.get? b = some u → h'.get? b = some u) (hp : h.objs.size ≤ a) (hn : H a = none) : Un fs ex H (upd H a o) h h' where
 keep := fun b u q _ _ _ => k b u q
 slot := fun b u q _ _ _ => ⟨u.slots, k b u q⟩
 free := fun b u q n _ => by rw [ZA (Nat.ne_of_lt (Nat.lt_of_lt_of_le (Heap.lt_size q) hp))]; exact n
 there := fun b u q _ => ⟨u, k b u q⟩
 tups := fun b xs q => by rw [ZA (Zo q hn)]; exact q
 frzs := fun b u xs q => by rw [ZA (Zo q hn)]; exact q
 tbls := fun b ps q => ⟨#[], by rw [ZA (Zo q hn), q]; simp⟩
theorem Un.write (mu : Mut (H x)) (he : e = x ∨ H e = some (.own x)) (k : ∀ b u, b ≠ e → h.get? b = some u → h'.get? b = some u) (heo : ∃ u, h'.get? e = some u) : Un fs ex H (upd H x o) h h' := by
 have hx : ∀ b, H b = none → b ≠ x := fun b n z => by subst z; rw [n] at mu; exact mu
 have hb : ∀ b, H b = none → b ≠ e := fun b n z => by
  subst z
  rcases he with r | r
  ·exact hx b n r
  ·rw [n] at r; cases r
 have hm : ∀ b u, H b = some u → ¬ Mut (some u) → b ≠ x := fun b u q nm z => by subst z; rw [q] at mu; exact nm mu
 refine ⟨fun b u q n _ _ => k b u (hb b n) q, fun b u q n _ _ => ⟨u.slots, k b u (hb b n) q⟩, fun b u q n _ => by rw [ZA (hx b n)]; exact n, fun b u q _ => ?_,
  fun b xs q => by rw [ZA (hm b _ q fun z => z)]; exact q, fun b u xs q => by rw [ZA (hm b _ q fun z => z)]; exact q, fun b ps q => ⟨#[], by rw [ZA (hm b _ q fun z => z), q]; simp⟩⟩
 by_cases hbe : b = e
 ·subst hbe; exact heo
 ·exact ⟨u, k b u hbe q⟩
end
noncomputable def trk (h : Heap) (H : Hp) : List Addr := (List.range h.objs.size).filter fun a => (H a).isSome
noncomputable def BS (h : Heap) (H : Hp) : Heap := PySem.W.hideAll h (trk h H)
theorem Gp (h : Heap) (H : Hp) : (BS h H).objs.size = h.objs.size := PySem.W.hideAll_size _ _
theorem D6 {h : Heap} {H : Hp} {b : Addr} {o : Obj} (e : h.get? b = some o) (n : H b = none) : (BS h H).get? b = some o :=
 PySem.W.hideAll_get _ e fun hm => by
  have q : (H b).isSome = true := (List.mem_filter.mp hm).2
  rw [n] at q; simp at q
theorem Fy {h : Heap} {H : Hp} {b : Addr} {o : Obj} (e : (BS h H).get? b = some o) : h.get? b = some o ∧ H b = none := by
 have e' : h.get? b = some o := PySem.W.of_hideAll (trk h H) e
 refine ⟨e', ?_⟩
 cases q : H b with
 | none => rfl
 | some x =>
  have hm : b ∈ trk h H := List.mem_filter.mpr ⟨List.mem_range.mpr (Heap.lt_size e'), by simp [q]⟩
  have z : (BS h H).get? b = none := PySem.W.hideAll_none (trk h H) hm
  rw [z] at e; cases e
noncomputable def Fo (g h : Heap) (L : Addr) : List (Addr × Obj) := (List.range h.objs.size).filterMap fun a => if a = L ∨ (g.get? a).isSome = true then none else (h.get? a).map fun o => (a, o)
noncomputable def rest (g h : Heap) (L d : Addr) : List (Addr × Obj) := (Fo g h L).filter fun p => decide (p.1 ≠ d)
end L2
namespace L2
open PySem PySem.Spec PyProof.Rows
structure Mod (K : PySem.W.Frag) (mg : Str → Option Value) (base : Heap) : Prop where
 kin : K.In base
 glob : base.Ns mainGlobals mg
 blt : ∃ mb, base.Ns builtinsNs mb ∧ ∀ x : Str, x ≠ "__name__" → mb x = bootBuiltins x
 nolimit : base.NoLimit
structure Cx where
 prog : Program
 w : World
 K : PySem.W.Frag
 mg : Str → Option Value
 base : Heap
 A : Around
 N : List Str
 s₀ : Shared
 H₀ : Hp
 env : Env
 outer : List Env
 stack : List Env
 ex : List Addr
 fn : Str → Bool
 calm : Bool
 pn : List (Addr × Obj)
 xe : Value → Shared → Prop
noncomputable def frs (l : List Env) : List Addr := l.filterMap (·.frame)
noncomputable abbrev Cx.fs (X : Cx) : List Addr := frs X.outer
noncomputable def Vis (sc : Scope) (x : Str) : Prop := sc.names.lookup x = some .local ∨ sc.names.lookup x = some .cell ∨ sc.names.lookup x = some .free
noncomputable def Loc (sc : Scope) (x : Str) : Prop := sc.names.lookup x = some .local ∨ sc.names.lookup x = some .cell
noncomputable def Look (env : Env) (h : Heap) (m : Str → Option Value) (x : Str) (u : Value) : Prop :=
 (env.kindOf x = some .local ∧ m x = some u) ∨ ((env.kindOf x = some .cell ∨ env.kindOf x = some .free) ∧ ∃ c, env.cells.lookup x = some c ∧ h.IsCell c (some u))
structure Cx.Ok (X : Cx) : Prop where
 mod : Mod X.K X.mg X.base
 kind : X.env.scope.kind = .function
 glob : X.env.globals = mainGlobals
 blt : X.env.builtins = builtinsNs
 above : X.s₀.heap.objs.size ≤ X.env.locals
 inj : ∀ x y c, X.env.cells.lookup x = some c → X.env.cells.lookup y = some c → x = y
 has : ∀ x, (X.env.kindOf x = some .cell ∨ X.env.kindOf x = some .free) → ∃ c, X.env.cells.lookup x = some c
 cab : ∀ x c, X.fn x = true → X.env.cells.lookup x = some c → X.s₀.heap.objs.size ≤ c
 hd : X.calm = true → X.A.handled = none
 frames : X.A.frames = some X.stack
 stk : X.stack = X.outer ∨ (X.stack = X.env :: X.outer ∧ X.env.frame = some X.env.locals)
 exf : ∀ b ∈ X.ex, b ≠ X.env.locals ∧ ∀ x c, X.env.cells.lookup x = some c → c ≠ b
 bs : ∀ b o, X.base.get? b = some o → X.s₀.heap.get? b = some o ∧ X.H₀ b = none
 bsz : X.base.objs.size ≤ X.s₀.heap.objs.size
 noex : ∀ b o, X.base.get? b = some o → b ∉ X.ex
 exfs : ∀ b ∈ X.ex, b ∉ X.fs
 GF : X.s₀.heap.FunFrames X.base X.outer
 frf : ∀ b ∈ X.fs, X.H₀ b = none
structure Inv (X : Cx) (pins : List (Addr × Obj)) (σ : List (Option V)) (H : Hp) (s : Shared) : Prop where
 ok : X.Ok
 os : s.os = X.s₀.os
 bare : AllBare s.gens
 base : Un X.fs X.ex X.H₀ H X.s₀.heap s.heap
 loc : ∃ m, s.heap.Ns X.env.locals m ∧ ∀ (i : Nat) (x : Str) (v : V), X.N[i]? = some x → σ[i]? = some (some v) → Vis X.env.scope x → ∃ u, RelV v u ∧ Look X.env s.heap m x u
 cell : ∀ x c, X.env.cells.lookup x = some c → ∃ v, s.heap.IsCell c v
 free : H X.env.locals = none
 freeC : ∀ x c, X.env.cells.lookup x = some c → H c = none
 pin : ∀ p ∈ X.pn ++ pins, s.heap.get? p.1 = some p.2 ∧ H p.1 = none ∧ p.1 ≠ X.env.locals ∧ p.1 ∉ X.fs ∧ ∀ v, p.2.data ≠ .cell v
 hok : HOk X.prog X.w H s.heap
 len : σ.length = X.N.length
section
variable {X : Cx} {pins : List (Addr × Obj)} {σ : List (Option V)} {H H' : Hp} {s : Shared} {h' : Heap}
theorem Cx.Ok.ZbK (ok : X.Ok) {b : Addr} {o : Obj} (e : X.base.get? b = some o) : b ∉ X.fs := fun hb => by
 have := (ok.GF.mem hb).1
 rw [e] at this; cases this
theorem Inv.bs (I : Inv X pins σ H s) : ∀ b o, X.base.get? b = some o → s.heap.get? b = some o ∧ H b = none := fun b o e =>
 ⟨I.base.keep b o (I.ok.bs b o e).1 (I.ok.bs b o e).2 (I.ok.ZbK e) (I.ok.noex b o e), I.base.free b o (I.ok.bs b o e).1 (I.ok.bs b o e).2 (I.ok.noex b o e)⟩
theorem Inv.bk (I : Inv X pins σ H s) : ∀ b o, X.base.get? b = some o → s.heap.get? b = some o := fun b o e => (I.bs b o e).1
theorem Inv.mod (I : Inv X pins σ H s) : Mod X.K X.mg X.base := I.ok.mod
theorem Inv.kIn (I : Inv X pins σ H s) : X.K.In s.heap := I.ok.mod.kin.keeps I.bk
theorem Inv.fr (I : Inv X pins σ H s) : ∃ m, Fr X.base X.env.locals s.heap m :=
 let ⟨m, hn, _⟩ := I.loc
 ⟨m, hn, I.bk, Nat.le_trans I.ok.bsz I.ok.above⟩
theorem Inv.lt (I : Inv X pins σ H s) : X.env.locals < s.heap.objs.size := let ⟨_, hn, _⟩ := I.loc; hn.lt
theorem Inv.sz (I : Inv X pins σ H s) : X.s₀.heap.objs.size ≤ s.heap.objs.size := Nat.le_trans I.ok.above (Nat.le_of_lt I.lt)
theorem Inv.Zbi (I : Inv X pins σ H s) {a : Addr} (h : s.heap.objs.size ≤ a) : a ∉ X.fs := fun hb => by
 obtain ⟨_, o, ho, _⟩ := I.ok.GF.mem hb
 exact absurd (Nat.lt_of_lt_of_le (Heap.lt_size ho) (Nat.le_trans I.sz h)) (Nat.lt_irrefl _)
theorem Inv.cne (I : Inv X pins σ H s) : ∀ x c, X.env.cells.lookup x = some c → c ≠ X.env.locals := fun x c e z => by
 obtain ⟨v, o, ho, hd⟩ := I.cell x c e
 obtain ⟨m, ⟨o', es, ep, ho', hd', _⟩, _⟩ := I.loc
 rw [z, ho'] at ho; cases ho; rw [hd'] at hd; cases hd
theorem Inv.GF (I : Inv X pins σ H s) : s.heap.FunFrames X.base X.outer := by
 have all : ∀ (l : List Env), (∀ b ∈ frs l, b ∈ X.fs) → X.s₀.heap.FunFrames X.base l → s.heap.FunFrames X.base l := by
  intro l
  induction l with
  | nil => intro _ _; trivial
  | cons env r ih =>
   intro hs hl
   obtain ⟨hk, ⟨L, o, hf, hn, ho, hd⟩, hr⟩ := hl
   have hL : L ∈ X.fs := hs L (by unfold frs; rw [List.filterMap_cons, hf]; exact List.mem_cons_self)
   obtain ⟨sl, e⟩ := I.base.slot L o ho (I.ok.frf L hL) hL fun z => I.ok.exfs L z hL
   exact ⟨hk, ⟨L, _, hf, hn, e, hd⟩, ih (fun b hb => hs b (by unfold frs; rw [List.filterMap_cons, hf]; exact List.mem_cons_of_mem _ hb)) hr⟩
 exact all X.outer (fun _ hb => hb) I.ok.GF
theorem Inv.stack (I : Inv X pins σ H s) : s.heap.FunFrames X.base X.stack := by
 rcases I.ok.stk with e | ⟨e, hf⟩
 ·rw [e]; exact I.GF
 ·rw [e]
  obtain ⟨m, hn, _⟩ := I.loc
  refine .cons (by rw [I.ok.kind]; decide) hf hn ?_ I.GF
  exact Heap.get?_none_of_le (Nat.le_trans I.ok.bsz I.ok.above)
theorem Inv.Bh (I : Inv X pins σ H s) : ∀ b ∈ frs X.stack, b ∈ X.env.locals :: X.fs := fun b hb => by
 rcases I.ok.stk with e | ⟨e, hf⟩
 ·rw [e] at hb; exact List.mem_cons_of_mem _ hb
 ·rw [e] at hb
  unfold frs at hb
  rw [List.filterMap_cons, hf] at hb
  exact hb
theorem Inv.G4 (I : Inv X pins σ H s) : ∀ b ∈ frs X.stack, H b = none := fun b hb => by
 rcases List.mem_cons.mp (I.Bh b hb) with e | hb
 ·rw [e]; exact I.free
 ·obtain ⟨_, o, ho, _⟩ := I.ok.GF.mem hb
  exact I.base.free b o ho (I.ok.frf b hb) fun z => I.ok.exfs b z hb
theorem Inv.step {g' : Array GenState} {t' : Nat} {d' : Drawn} {ch : List Addr} (I : Inv X pins σ H s)
  (hch : ∀ b ∈ ch, (b ∈ X.ex ∨ X.s₀.heap.objs.size ≤ b) ∧ b ≠ X.env.locals ∧ (∀ x c, X.env.cells.lookup x = some c → c ≠ b) ∧ ∀ p ∈ X.pn ++ pins, p.1 ≠ b)
  (keep : ∀ b o, b ≠ X.env.locals → b ∉ X.fs → b ∉ ch → s.heap.get? b = some o → H b = none → h'.get? b = some o)
  (slot : ∀ b o, b ≠ X.env.locals → b ∈ X.fs → b ∉ ch → s.heap.get? b = some o → H b = none → ∃ sl, h'.get? b = some { o with slots := sl }) (free : ∀ b o, b ∉ ch → s.heap.get? b = some o → H b = none → H' b = none)
  (there : ∀ b o, b ∉ ch → s.heap.get? b = some o → ∃ o', h'.get? b = some o')
  (tups : ∀ b xs, H b = some (.tup xs) → H' b = some (.tup xs)) (frzs : ∀ b o u, H b = some (.frz o u) → H' b = some (.frz o u)) (tbls : ∀ b ps, H b = some (.tbl ps) → ∃ more, H' b = some (.tbl (ps ++ more)))
  (ns : ∀ m, s.heap.Ns X.env.locals m → h'.Ns X.env.locals m) (hok : HOk X.prog X.w H' h') (hg : AllBare g') :
  Inv X pins σ H' { s with heap := h', gens := g', drawn := d', toks := t' } := by
 have neL : ∀ b o, X.s₀.heap.get? b = some o → b ≠ X.env.locals := fun b o e => Nat.ne_of_lt (Nat.lt_of_lt_of_le (Heap.lt_size e) I.ok.above)
 have neC : ∀ b o, X.s₀.heap.get? b = some o → b ∉ X.ex → b ∉ ch := fun b o e hx hb => by
  rcases (hch b hb).1 with z | z
  ·exact hx z
  ·exact absurd (Nat.lt_of_lt_of_le (Heap.lt_size e) z) (Nat.lt_irrefl _)
 have cellK : ∀ x c, X.env.cells.lookup x = some c → ∀ v, s.heap.IsCell c v → h'.IsCell c v := fun x c e v ⟨o, ho, hd⟩ => by
  have nch : c ∉ ch := fun z => (hch c z).2.2.1 x c e rfl
  by_cases hc : c ∈ X.fs
  ·obtain ⟨sl, q⟩ := slot c o (I.cne x c e) hc nch ho (I.freeC x c e)
   exact ⟨_, q, hd⟩
  ·exact ⟨o, keep c o (I.cne x c e) hc nch ho (I.freeC x c e), hd⟩
 refine ⟨I.ok, I.os, hg, ⟨fun b o e n hb hx => ?_, fun b o e n hb hx => ?_, fun b o e n hx => ?_, fun b o e hx => ?_, fun b xs e => tups b xs (I.base.tups b xs e), fun b o xs e => frzs b o xs (I.base.frzs b o xs e), fun b ps e => ?_⟩, ?_, fun x c e => ?_, ?_, fun x c e => ?_, fun p hp => ?_, hok, I.len⟩
 ·exact keep b o (neL b o e) hb (neC b o e hx) (I.base.keep b o e n hb hx) (I.base.free b o e n hx)
 ·obtain ⟨sl, e1⟩ := I.base.slot b o e n hb hx
  obtain ⟨sl', e2⟩ := slot b _ (neL b o e) hb (neC b o e hx) e1 (I.base.free b o e n hx)
  exact ⟨sl', e2⟩
 ·obtain ⟨o', e1⟩ := I.base.there b o e hx
  exact free b o' (neC b o e hx) e1 (I.base.free b o e n hx)
 ·obtain ⟨o', e1⟩ := I.base.there b o e hx
  exact there b o' (neC b o e hx) e1
 ·obtain ⟨m1, e1⟩ := I.base.tbls b ps e
  obtain ⟨m2, e2⟩ := tbls b _ e1
  exact ⟨m1 ++ m2, by rw [e2, Array.append_assoc]⟩
 ·obtain ⟨m, hn, hl⟩ := I.loc
  refine ⟨m, ns m hn, fun i x v e1 e2 e3 => ?_⟩
  obtain ⟨u, r, l⟩ := hl i x v e1 e2 e3
  refine ⟨u, r, ?_⟩
  rcases l with l | ⟨k, c, e, z⟩
  ·exact .inl l
  ·exact .inr ⟨k, c, e, cellK x c e _ z⟩
 ·obtain ⟨v, z⟩ := I.cell x c e
  exact ⟨v, cellK x c e v z⟩
 ·obtain ⟨m, ⟨o, _, _, ho, _⟩, _⟩ := I.loc
  exact free _ o (fun z => (hch _ z).2.1 rfl) ho I.free
 ·obtain ⟨v, o, ho, hd⟩ := I.cell x c e
  exact free c o (fun z => (hch c z).2.2.1 x c e rfl) ho (I.freeC x c e)
 ·obtain ⟨e, n, ne, nf, d⟩ := I.pin p hp
  have nch : p.1 ∉ ch := fun z => (hch p.1 z).2.2.2 p hp rfl
  exact ⟨keep p.1 p.2 ne nf nch e n, free p.1 p.2 nch e n, ne, nf, d⟩
theorem Inv.un {t' : Nat} (I : Inv X pins σ H s) (u : Un X.fs [] H H' s.heap h') (hok : HOk X.prog X.w H' h') : Inv X pins σ H' { s with heap := h', toks := t' } := by
 obtain ⟨m, ⟨o, es, ep, ho, r⟩, _⟩ := id I.loc
 obtain ⟨sl, hL⟩ := u.any ho I.free (by simp)
 exact I.step (g' := s.gens) (d' := s.drawn) (ch := []) (fun _ z => nomatch z) (fun b o _ hb _ e n => u.keep b o e n hb (by simp)) (fun b o _ hb _ e n => u.slot b o e n hb (by simp)) (fun b o _ e n => u.free b o e n (by simp)) (fun b o _ e => u.there b o e (by simp)) u.tups u.frzs u.tbls (fun m' hm => by
  obtain ⟨o', es', ep', ho', r'⟩ := hm
  rw [ho] at ho'; cases ho'
  exact ⟨_, es', ep', hL, r'⟩) hok I.bare
theorem Inv.call {g' : Array GenState} {t' : Nat} {d' : Drawn} {ch : List Addr} (I : Inv X pins σ H s) (u : Un (frs X.stack) ch H H' s.heap h') (hok : HOk X.prog X.w H' h') (hg : AllBare g')
  (hch : ∀ b ∈ ch, (b ∈ X.ex ∨ X.s₀.heap.objs.size ≤ b) ∧ b ≠ X.env.locals ∧ (∀ x c, X.env.cells.lookup x = some c → c ≠ b) ∧ ∀ p ∈ X.pn ++ pins, p.1 ≠ b) :
  Inv X pins σ H' { s with heap := h', gens := g', drawn := d', toks := t' } := by
 obtain ⟨m, ⟨o, es, ep, ho, r⟩, _⟩ := id I.loc
 obtain ⟨sl, hL⟩ := u.any ho I.free fun z => (hch _ z).2.1 rfl
 exact I.step (ch := ch) hch (fun b o hL hb hc e n => u.keep b o e n (fun z => (List.mem_cons.mp (I.Bh b z)).elim hL hb) hc) (fun b o _ _ hc e n => u.any e n hc) (fun b o hc e n => u.free b o e n hc) (fun b o hc e => u.there b o e hc) u.tups u.frzs u.tbls (fun m' hm => by
  obtain ⟨o', es', ep', ho', r'⟩ := hm
  rw [ho] at ho'; cases ho'
  exact ⟨_, es', ep', hL, r'⟩) hok hg
theorem Inv.turned {t' : Nat} {it : Addr} (I : Inv X pins σ H s) (k : ∀ b o, b ≠ it → s.heap.get? b = some o → h'.get? b = some o) (hn : H it = none) (hL : it ≠ X.env.locals)
  (h1 : it ∈ X.ex ∨ X.s₀.heap.objs.size ≤ it) (h2 : ∀ x c, X.env.cells.lookup x = some c → c ≠ it) (h3 : ∀ p ∈ X.pn ++ pins, p.1 ≠ it) : Inv X pins σ H { s with heap := h', toks := t' } := by
 have nit : ∀ b u, H b = some u → b ≠ it := fun b u e z => by rw [z, hn] at e; cases e
 refine I.step (g' := s.gens) (d' := s.drawn) (ch := [it]) (fun b hb => ?_) (fun b o _ _ hc e _ => k b o (fun z => hc (by simp [z])) e) (fun b o _ _ hc e _ => ⟨o.slots, k b o (fun z => hc (by simp [z])) e⟩) (fun _ _ _ _ n => n)
  (fun b o hc e => ⟨o, k b o (fun z => hc (by simp [z])) e⟩) (fun _ _ e => e) (fun _ _ _ e => e) (fun b ps e => ⟨#[], by rw [e]; simp⟩) (fun m hm => ?_) (fun b u e => ?_) I.bare
 ·have e : b = it := by simpa using hb
  subst e
  exact ⟨h1, hL, h2, h3⟩
 ·obtain ⟨o, es, ep, ho, r⟩ := hm
  exact ⟨o, es, ep, k _ o (Ne.symm hL) ho, r⟩
 ·refine (I.hok b u e).L9 (fun c v hc q => k c v ?_ q) (fun _ q => q) fun _ _ q => q
  rcases hc with z | z
  ·rw [z]; exact nit b u e
  ·exact nit c _ z
theorem Inv.tok (I : Inv X pins σ H s) (t : Nat) : Inv X pins σ H { s with toks := t } := I.un (h' := s.heap) (t' := t) Un.refl I.hok
theorem Inv.kept {t' : Nat} (I : Inv X pins σ H s) (k : ∀ b u, s.heap.get? b = some u → h'.get? b = some u) : Inv X pins σ H { s with heap := h', toks := t' } := I.un (Un.kept k) (I.hok.kept k)
theorem Inv.laid {a : Addr} {o : HO} {t' : Nat} (I : Inv X pins σ H s) (k : ∀ b u, s.heap.get? b = some u → h'.get? b = some u) (hp : s.heap.objs.size ≤ a) (new : Qp X.prog X.w (upd H a o) h' a o) :
  Inv X pins σ (upd H a o) { s with heap := h', toks := t' } := I.un (Un.laid k hp (I.hok.fresh hp)) (I.hok.laid k hp new)
theorem Inv.write {x e : Addr} {o : HO} {t' : Nat} (I : Inv X pins σ H s) (mu : Mut (H x)) (he : e = x ∨ H e = some (.own x)) (k : ∀ b u, b ≠ e → s.heap.get? b = some u → h'.get? b = some u) (heo : ∃ u, h'.get? e = some u)
  (new : Qp X.prog X.w (upd H x o) h' x o) : Inv X pins σ (upd H x o) { s with heap := h', toks := t' } := I.un (Un.write mu he k heo) (I.hok.write mu he k heo new)
theorem Inv.Vz {pins' : List (Addr × Obj)} (I : Inv X pins σ H s) (h : ∀ p ∈ pins', s.heap.get? p.1 = some p.2 ∧ H p.1 = none ∧ p.1 ≠ X.env.locals ∧ p.1 ∉ X.fs ∧ ∀ v, p.2.data ≠ .cell v) : Inv X pins' σ H s :=
 ⟨I.ok, I.os, I.bare, I.base, I.loc, I.cell, I.free, I.freeC, fun p hp => (List.mem_append.mp hp).elim (fun z => I.pin p (List.mem_append_left _ z)) (h p), I.hok, I.len⟩
theorem WT {N : List Str} (hN : N.Nodup) {i j : Nat} {x : Str} (a : N[i]? = some x) (b : N[j]? = some x) : i = j := by
 obtain ⟨h1, e1⟩ := List.getElem?_eq_some_iff.mp a
 obtain ⟨h2, e2⟩ := List.getElem?_eq_some_iff.mp b
 exact (List.getElem_inj hN).mp (e1.trans e2.symm)
theorem BE {M : Model} {A : Around} {E : Value → Shared → Prop} {i : Nat} {x : Str} {v : V} {u : Value} {Q : Unit → Shared → Prop} (I : Inv X pins σ H s) (hN : X.N.Nodup) (hi : X.N[i]? = some x) (hx : Loc X.env.scope x) (r : RelV v u)
  (h : ∀ s', Inv X pins (σ.set i (some v)) H s' → (∃ a, Heap.SameBut a s.heap s'.heap ∧ (a = X.env.locals ∨ X.env.cells.lookup x = some a)) → Q () s') (hf : X.fn x = true ∨ X.env.scope.names.lookup x = some .local := by first | exact .inl rfl | exact .inr rfl | assumption) : wpAny M A (storeName X.env x u) Q E s := by
 obtain ⟨m, hn, hl⟩ := id I.loc
 have hcls : (X.env.scope.kind == .class || (X.env.scope.kind == .module && X.env.locals != X.env.globals)) = false := by rw [I.ok.kind]; rfl
 have hiσ : i < σ.length := by rw [I.len]; exact (List.getElem?_eq_some_iff.mp hi).1
 have cne := I.cne
 have tracked : ∀ {a : Addr} {h' : Heap}, (∃ o, s.heap.get? a = some o ∧ H a = none) → Heap.SameBut a s.heap h' → HOk X.prog X.w H h' := fun {a h'} ha hs b ob e => by
  obtain ⟨_, _, hfree⟩ := ha
  refine (I.hok b ob e).L9 (fun c w' hc q => (hs.2 c ?_).trans q) (fun _ q => q) fun _ _ q => q
  rintro rfl
  rcases hc with rfl | hc
  ·rw [hfree] at e; cases e
  ·rw [hfree] at hc; cases hc
 rcases hx with hk | hk
 ·refine wpAny_storeName_local hk hn (fun h' hn' hs => ?_) hcls
  obtain ⟨oL, _, _, hoL, _⟩ := id hn
  refine h _ ⟨I.ok, I.os, I.bare, ⟨fun b o e n hb hx => ?_, fun b o e n hb hx => ?_, I.base.free, fun b o e hx => ?_, I.base.tups, I.base.frzs, I.base.tbls⟩, ⟨_, hn', fun j y v' e1 e2 e3 => ?_⟩, fun y c e => ?_, I.free, I.freeC, fun p hp => ?_, tracked ⟨oL, hoL, I.free⟩ hs, by simpa using I.len⟩ ⟨_, hs, .inl rfl⟩
  ·exact (hs.2 b (Nat.ne_of_lt (Nat.lt_of_lt_of_le (Heap.lt_size e) I.ok.above))).trans (I.base.keep b o e n hb hx)
  ·obtain ⟨sl, e1⟩ := I.base.slot b o e n hb hx
   exact ⟨sl, (hs.2 b (Nat.ne_of_lt (Nat.lt_of_lt_of_le (Heap.lt_size e) I.ok.above))).trans e1⟩
  ·obtain ⟨o', e1⟩ := I.base.there b o e hx
   exact ⟨o', (hs.2 b (Nat.ne_of_lt (Nat.lt_of_lt_of_le (Heap.lt_size e) I.ok.above))).trans e1⟩
  ·by_cases hj : j = i
   ·subst hj
    rw [hi] at e1; cases e1
    rw [List.getElem?_set_self hiσ] at e2
    cases e2
    exact ⟨u, r, .inl ⟨hk, by simp⟩⟩
   ·rw [List.getElem?_set_ne (Ne.symm hj)] at e2
    obtain ⟨u', r', q⟩ := hl j y v' e1 e2 e3
    refine ⟨u', r', ?_⟩
    rcases q with ⟨k, e⟩ | ⟨k, c, e, z⟩
    ·refine .inl ⟨k, ?_⟩
     have : y ≠ x := fun e => hj (WT hN e1 (e ▸ hi))
     simp [this, e]
    ·exact .inr ⟨k, c, e, z.sameBut hs (cne y c e)⟩
  ·obtain ⟨w', z⟩ := I.cell y c e
   exact ⟨w', z.sameBut hs (cne y c e)⟩
  ·obtain ⟨e, n, ne, nf, d⟩ := I.pin p hp
   exact ⟨(hs.2 p.1 ne).trans e, n, ne, nf, d⟩
 ·have hfn : X.fn x = true := by
   rcases hf with z | z
   ·exact z
   ·rw [z] at hk; cases hk
  obtain ⟨c, hc⟩ := I.ok.has x (.inl hk)
  obtain ⟨w', z⟩ := I.cell x c hc
  refine wpAny_storeName_cell I.ok.kind hk hc z (fun h' hc' hs => ?_)
  obtain ⟨oc, hoc, hocd⟩ := id z
  refine h { s with heap := h' } ⟨I.ok, I.os, I.bare, ⟨fun b o e n hb hx => ?_, fun b o e n hb hx => ?_, I.base.free, fun b o e hx => ?_, I.base.tups, I.base.frzs, I.base.tbls⟩, ⟨m, hn.sameBut hs (Ne.symm (cne x c hc)), fun j y v' e1 e2 e3 => ?_⟩, fun y c' e => ?_, I.free, I.freeC, fun p hp => ?_, tracked ⟨oc, hoc, I.freeC x c hc⟩ hs, by simpa using I.len⟩ ⟨c, hs, .inr hc⟩
  ·exact (hs.2 b (Nat.ne_of_lt (Nat.lt_of_lt_of_le (Heap.lt_size e) (I.ok.cab x c hfn hc)))).trans (I.base.keep b o e n hb hx)
  ·obtain ⟨sl, e1⟩ := I.base.slot b o e n hb hx
   exact ⟨sl, (hs.2 b (Nat.ne_of_lt (Nat.lt_of_lt_of_le (Heap.lt_size e) (I.ok.cab x c hfn hc)))).trans e1⟩
  ·obtain ⟨o', e1⟩ := I.base.there b o e hx
   exact ⟨o', (hs.2 b (Nat.ne_of_lt (Nat.lt_of_lt_of_le (Heap.lt_size e) (I.ok.cab x c hfn hc)))).trans e1⟩
  ·by_cases hj : j = i
   ·subst hj
    rw [hi] at e1; cases e1
    rw [List.getElem?_set_self hiσ] at e2
    cases e2
    exact ⟨u, r, .inr ⟨.inl hk, c, hc, hc'⟩⟩
   ·rw [List.getElem?_set_ne (Ne.symm hj)] at e2
    obtain ⟨u', r', q⟩ := hl j y v' e1 e2 e3
    refine ⟨u', r', ?_⟩
    rcases q with q | ⟨k, c', e, z'⟩
    ·exact .inl q
    ·refine .inr ⟨k, c', e, z'.sameBut hs ?_⟩
     rintro rfl
     exact hj (WT hN e1 (I.ok.inj _ _ _ e hc ▸ hi))
  ·by_cases hcc : c' = c
   ·subst hcc; exact ⟨_, hc'⟩
   ·obtain ⟨w2, z2⟩ := I.cell y c' e
    exact ⟨w2, z2.sameBut hs hcc⟩
  ·obtain ⟨e, n, ne, nf, d⟩ := I.pin p hp
   refine ⟨(hs.2 p.1 ?_).trans e, n, ne, nf, d⟩
   intro q
   rw [q, hoc] at e
   have q' : oc = p.2 := Option.some.inj e
   exact d w' (by rw [← q']; exact hocd)
theorem WL {M : Model} {A : Around} {E : Value → Shared → Prop} {i : Nat} {x : Str} {v : V} {u : Value} {Q : Unit → Shared → Prop} (I : Inv X pins σ H s) (hN : X.N.Nodup) (hi : X.N[i]? = some x) (hx : Loc X.env.scope x) (r : RelV v u)
  (h : ∀ s', Inv X pins (σ.set i (some v)) H s' → Q () s') (hf : X.fn x = true ∨ X.env.scope.names.lookup x = some .local := by first | exact .inl rfl | exact .inr rfl | assumption) : wpAny M A (storeName X.env x u) Q E s :=
 BE I hN hi hx r (fun s' I' _ => h s' I') hf
theorem Inv.RL {s' : Shared} {ch : List Addr} (I : Inv X pins σ H s) (ho : s'.os = s.os) (u : Un (frs X.stack) ch H H' s.heap s'.heap) (hok : HOk X.prog X.w H' s'.heap) (hg : AllBare s'.gens)
  (hch : ∀ b ∈ ch, (b ∈ X.ex ∨ X.s₀.heap.objs.size ≤ b) ∧ b ≠ X.env.locals ∧ (∀ x c, X.env.cells.lookup x = some c → c ≠ b) ∧ ∀ p ∈ X.pn ++ pins, p.1 ≠ b) : Inv X pins σ H' s' := by
 obtain ⟨h', g', d', t', o'⟩ := s'
 have e : o' = s.os := ho
 subst e
 exact I.call (g' := g') (t' := t') (d' := d') u hok hg hch
end
noncomputable abbrev XK := Value → Option Addr → Hp → Prop
noncomputable abbrev St := List (Option V)
noncomputable abbrev VK := V → Hp → Prop
noncomputable abbrev TE := St → Hp → VK → Prop
noncomputable abbrev TT := St → Hp → (Bool → Hp → Prop) → Prop
noncomputable abbrev TA := St → Hp → (List V → Hp → Prop) → Prop
structure Ends where
 nx : St → Hp → Prop
 rt : VK
 bk : St → Hp → Prop := fun _ _ => False
 ct : St → Hp → Prop := fun _ _ => False
noncomputable abbrev TS := Ends → St → Hp → Prop
noncomputable def EP (X : Cx) (pins : List (Addr × Obj)) (σ : St) (Q : VK) (u : Value) (s' : Shared) : Prop := ∃ v H', Inv X pins σ H' s' ∧ RelV v u ∧ Q v H'
noncomputable def TP (X : Cx) (pins : List (Addr × Obj)) (σ : St) (Q : Bool → Hp → Prop) (b : Bool) (s' : Shared) : Prop := ∃ H', Inv X pins σ H' s' ∧ Q b H'
noncomputable def AP (X : Cx) (pins : List (Addr × Obj)) (σ : St) (Q : List V → Hp → Prop) (us : List Value) (s' : Shared) : Prop := ∃ vs H', Inv X pins σ H' s' ∧ Vals vs us ∧ Q vs H'
noncomputable def SP (X : Cx) (pins : List (Addr × Obj)) (D : Ends) (f : Flow) (s' : Shared) : Prop :=
 match f with
 | .next => ∃ σ' H', Inv X pins σ' H' s' ∧ D.nx σ' H'
 | .brk => ∃ σ' H', Inv X pins σ' H' s' ∧ D.bk σ' H'
 | .cont => ∃ σ' H', Inv X pins σ' H' s' ∧ D.ct σ' H'
 | .ret u => ∃ v σ' H', Inv X pins σ' H' s' ∧ RelV v u ∧ D.rt v H'
noncomputable def PE (X : Cx) (e : Expr) (t : TE) : Prop :=
 ∀ (pins : List (Addr × Obj)) (s : Shared) (σ : St) (H : Hp) (Q : VK), Inv X pins σ H s → t σ H Q → wpAny (model X.prog X.w) X.A (eval e X.env) (EP X pins σ Q) X.xe s
noncomputable def PT (X : Cx) (e : Expr) (t : TT) : Prop :=
 ∀ (pins : List (Addr × Obj)) (s : Shared) (σ : St) (H : Hp) (Q : Bool → Hp → Prop), Inv X pins σ H s → t σ H Q → wpAny (model X.prog X.w) X.A (isTrue e X.env (eval e X.env)) (TP X pins σ Q) X.xe s
noncomputable def PW (X : Cx) (e : Expr) (t : TT) : Prop :=
 ∀ (whole : Sem Value) (pins : List (Addr × Obj)) (s : Shared) (σ : St) (H : Hp) (Q : Bool → Hp → Prop), Inv X pins σ H s → t σ H Q → wpAny (model X.prog X.w) X.A (isTrue e X.env whole) (TP X pins σ Q) X.xe s
theorem PW.pt {X : Cx} {e : Expr} {t : TT} (h : PW X e t) : PT X e t := h _
noncomputable def PA (X : Cx) (es : List Expr) (t : TA) : Prop :=
 ∀ (pos : Pos) (pins : List (Addr × Obj)) (s : Shared) (σ : St) (H : Hp) (Q : List V → Hp → Prop), Inv X pins σ H s → t σ H Q → wpAny (model X.prog X.w) X.A (spliced (backTo pos (starEach es X.env))) (AP X pins σ Q) X.xe s
noncomputable def PS (X : Cx) (st : Stmt) (t : TS) : Prop :=
 ∀ (pins : List (Addr × Obj)) (s : Shared) (σ : St) (H : Hp) (D : Ends), Inv X pins σ H s → t D σ H → wpAny (model X.prog X.w) X.A (exec st X.env) (SP X pins D) X.xe s
noncomputable def PSs (X : Cx) (st : List Stmt) (t : TS) : Prop :=
 ∀ (pins : List (Addr × Obj)) (s : Shared) (σ : St) (H : Hp) (D : Ends), Inv X pins σ H s → t D σ H → wpAny (model X.prog X.w) X.A (execs st X.env) (SP X pins D) X.xe s
theorem thn {α : Type} {t : Sem α} {Q Q' : α → Shared → Prop} {M : Model} {A : Around} {E : Value → Shared → Prop} {s : Shared} (h : wpAny M A t Q E s) (hQ : ∀ a s, Q a s → Q' a s) : wpAny M A t Q' E s := wpAny_mono h hQ fun _ _ x => x
end L2
namespace L2
open PySem PySem.Spec PyProof.Rows
section
variable {X : Cx}
noncomputable def Zcc (i : Nat) : TE := fun σ H Q => ∃ v, σ[i]? = some (some v) ∧ Q v H
noncomputable def tC (v : V) : TE := fun _ H Q => Q v H
theorem MZ {i : Nat} {x : Str} {pos : Pos} (hN : X.N[i]? = some x) (hv : Vis X.env.scope x) (hd : (x == ("__debug__" : Str)) = false := by decide) (hcd : (x == ("__classdict__" : Str)) = false := by decide) : PE X (.Name x pos) (Zcc i) := by
 intro pins s σ H Q I h
 obtain ⟨v, e, h⟩ := h
 obtain ⟨m, hn, hl⟩ := I.loc
 obtain ⟨u, r, l⟩ := hl i x v hN e hv
 have fin : EP X pins σ Q u s := ⟨v, H, I, r, h⟩
 rcases l with ⟨hk, hm⟩ | ⟨hk, c, hc, hcell⟩
 ·exact wpAny_Name (wpAny_loadName_local I.ok.kind hk hn hm fin) hd
 ·rcases hk with hk | hk
  ·exact wpAny_Name (wpAny_loadName_cell I.ok.kind hk hc hcell fin) hd
  ·exact wpAny_Name (wpAny_loadName_free I.ok.kind hk hc hcell fin hcd) hd
theorem Pc {i j pos} : PE X (.Constant (.int i) j pos) (tC (.int i)) := fun _ _ _ H _ I h => wpAny_Constant_int ⟨.int i, H, I.tok _, ⟨_, rfl⟩, h⟩
theorem Tw {b j pos} : PE X (.Constant (.bool b) j pos) (tC (.bl b)) := fun _ _ _ H _ I h => Constant_bool ⟨.bl b, H, I, rfl, h⟩
noncomputable def Gl (X : Cx) (x : Str) : Prop := X.env.kindOf x = some .globalImplicit
theorem UR {E : Value → Shared → Prop} {pins : List (Addr × Obj)} {s : Shared} {σ : St} {H : Hp} {x : Str} {u : Value} {pos : Pos} {Q : Value → Shared → Prop} (I : Inv X pins σ H s) (hg : Gl X x) (hm : X.mg x = some u) (h : Q u s)
  (hd : (x == ("__debug__" : Str)) = false := by decide) : wpAny (model X.prog X.w) X.A (eval (.Name x pos) X.env) Q E s :=
 Calls.Name_function_global I.ok.kind hg (Calls.loadGlobal_global (by rw [I.ok.glob]; exact I.mod.glob.keeps I.bk) hm h) hd
theorem X3 {E : Value → Shared → Prop} {pins : List (Addr × Obj)} {s : Shared} {σ : St} {H : Hp} {x : Str} {u : Value} {pos : Pos} {Q : Value → Shared → Prop} (I : Inv X pins σ H s) (hg : Gl X x) (hm : X.mg x = none) (hv : bootBuiltins x = some u) (h : Q u s)
  (hn : x ≠ "__name__" := by decide) (hd : (x == ("__debug__" : Str)) = false := by decide) : wpAny (model X.prog X.w) X.A (eval (.Name x pos) X.env) Q E s := by
 obtain ⟨mb, h1, h2⟩ := I.mod.blt
 exact Calls.Name_function_global I.ok.kind hg (Calls.loadGlobal_builtin (by rw [I.ok.glob]; exact I.mod.glob.keeps I.bk) hm (by rw [I.ok.blt]; exact h1.keeps I.bk) ((h2 x hn).trans hv) h) hd
theorem Lm {x : Str} {v : V} {u : Value} {pos : Pos} (hg : Gl X x) (hm : X.mg x = some u) (r : RelV v u) (hd : (x == ("__debug__" : Str)) = false := by decide) : PE X (.Name x pos) (tC v) :=
 fun _ _ _ H _ I h => UR I hg hm ⟨v, H, I, r, h⟩ hd
theorem Ki {x : Str} {v : V} {u : Value} {pos : Pos} (hg : Gl X x) (hm : X.mg x = none) (hv : bootBuiltins x = some u) (r : RelV v u) (hn : x ≠ "__name__" := by decide) (hd : (x == ("__debug__" : Str)) = false := by decide) : PE X (.Name x pos) (tC v) :=
 fun _ _ _ H _ I h => X3 I hg hm hv ⟨v, H, I, r, h⟩ hn hd
noncomputable def t2I (ta tb : TE) (k : Int → Int → Hp → Prop) : St → Hp → Prop := fun σ H => ta σ H fun x H1 => tb σ H1 fun y H2 => ∃ i j, x = .int i ∧ y = .int j ∧ k i j H2
noncomputable def ZcS (ta tb : TE) : TE := fun σ H Q => t2I ta tb (fun i j H2 => Q (.int (i + j)) H2) σ H
noncomputable def ZcG (ta tb : TE) : TE := fun σ H Q => t2I ta tb (fun i j H2 => Q (.int (i - j)) H2) σ H
noncomputable def ZcJ (ta tb : TE) : TE := fun σ H Q => t2I ta tb (fun i j H2 => (-(2 ^ 64) < i ∧ i < 2 ^ 64) ∧ Q (.int (i * j)) H2) σ H
variable {a b : Expr} {ta tb : TE} {pos : Pos}
noncomputable def PC (X : Cx) (op : CmpOp) (a b : Expr) (t : TE) : Prop :=
 ∀ (pins : List (Addr × Obj)) (s : Shared) (σ : St) (H : Hp) (Q : VK), Inv X pins σ H s → t σ H Q →
  wpAny (model X.prog X.w) X.A (eval a X.env) (fun v s₁ => wpAny (model X.prog X.w) X.A (eval b X.env) (fun u s₂ => wpAny (model X.prog X.w) X.A (compareOp op v u) (EP X pins σ Q) X.xe s₂) X.xe s₁) X.xe s
noncomputable def L1 (p : Int → Int → Bool) (ta tb : TE) : TE := fun σ H Q => t2I ta tb (fun i j H2 => Q (.bl (p i j)) H2) σ H
noncomputable abbrev tLt : TE → TE → TE := L1 fun i j => decide (i < j)
noncomputable abbrev tLe : TE → TE → TE := L1 fun i j => decide (i ≤ j)
noncomputable abbrev tGt : TE → TE → TE := L1 fun i j => decide (j < i)
noncomputable abbrev tGe : TE → TE → TE := L1 fun i j => decide (j ≤ i)
noncomputable abbrev Zcx : TE → TE → TE := L1 fun i j => decide (i = j)
noncomputable abbrev ZcM : TE → TE → TE := L1 fun i j => !decide (i = j)
noncomputable def ZcZ (ta : TE) : TE := fun σ H Q => ta σ H fun x H1 => Q (.bl (decide (x = .non))) H1
noncomputable def Zbk (ta : TE) : TE := fun σ H Q => ta σ H fun x H1 => Q (.bl (!decide (x = .non))) H1
noncomputable def tB (t : TE) : TT := fun σ H Q => t σ H fun x H1 => ∃ c, x = .bl c ∧ Q c H1
theorem MI {e : Expr} {t : TE} (h : PE X e t) (he : ∀ whole, isTrue e X.env whole = (do let v ← whole; standAt e.pos; holding [v] (truthy v)) := by intro _; rfl) : PT X e (tB t) := by
 intro pins s σ H Q I hw
 refine isTrue_plain (thn (h pins s σ H _ I hw) fun v s1 ⟨x, H1, I1, r1, q1⟩ => ?_) (he _)
 obtain ⟨d, rfl, q⟩ := q1
 cases r1
 exact wpAny_truthy_bool ⟨H1, I1, q⟩
variable {tA tB' : TT} {rest : List Expr}
noncomputable def ZbB (t u : TT) : TT := fun σ H Q => t σ H fun c H1 => if c = true then u σ H1 Q else Q false H1
noncomputable def tOr (t u : TT) : TT := fun σ H Q => t σ H fun c H1 => if c = true then Q true H1 else u σ H1 Q
noncomputable def Za8 (t : TT) : TT := fun σ H Q => t σ H fun c H1 => Q (!c) H1
theorem HQ (ha : PT X a tA) : PW X (.BoolOp .And [a] pos) tA := by
 intro wh pins s σ H Q I h
 refine isTrue_and (thn (ha pins s σ H Q I h) fun c s1 e => ?_)
 cases c with
 | true => exact isTrue_and_nil e
 | false => exact e
theorem NK (ha : PT X a tA) : PW X (.BoolOp .Or [a] pos) tA := by
 intro wh pins s σ H Q I h
 refine isTrue_or (thn (ha pins s σ H Q I h) fun c s1 e => ?_)
 cases c with
 | false => exact isTrue_or_nil e
 | true => exact e
theorem Oc (ha : PT X a tA) (hb : PW X (.BoolOp .And (b :: rest) pos) tB') : PW X (.BoolOp .And (a :: b :: rest) pos) (ZbB tA tB') := by
 intro wh pins s σ H Q I h
 refine isTrue_and (thn (ha pins s σ H _ I h) fun c s1 ⟨H1, I1, q1⟩ => ?_)
 cases c with
 | true => exact hb wh pins s1 σ H1 Q I1 q1
 | false => exact ⟨H1, I1, q1⟩
theorem So (ha : PT X a tA) (hb : PW X (.BoolOp .Or (b :: rest) pos) tB') : PW X (.BoolOp .Or (a :: b :: rest) pos) (tOr tA tB') := by
 intro wh pins s σ H Q I h
 refine isTrue_or (thn (ha pins s σ H _ I h) fun c s1 ⟨H1, I1, q1⟩ => ?_)
 cases c with
 | true => exact ⟨H1, I1, q1⟩
 | false => exact hb wh pins s1 σ H1 Q I1 q1
theorem Ny (ha : PT X a tA) : PT X (.UnaryOp .Not a pos) (Za8 tA) := by
 intro pins s σ H Q I h
 exact isTrue_not (ha pins s σ H (fun c H1 => Q (!c) H1) I h)
noncomputable def SI (ta tb : TE) : TE := fun σ H Q => ta σ H fun x H1 => ∃ c, x = .bl c ∧ if c = true then tb σ H1 Q else Q (.bl false) H1
noncomputable def ZcN (ta tb : TE) : TE := fun σ H Q => ta σ H fun x H1 => ∃ c, x = .bl c ∧ if c = true then Q (.bl true) H1 else tb σ H1 Q
noncomputable def RF (ta : TE) : TE := fun σ H Q => ta σ H fun x H1 => ∃ c, x = .bl c ∧ Q (.bl (!c)) H1
theorem NT {op} {t : TE} (h : PE X a t) : PE X (.BoolOp op [a] pos) t := fun pins s σ H Q I hw => BoolOp_one (h pins s σ H Q I hw)
theorem MY (ha : PE X a ta) (hb : PE X (.BoolOp .And (b :: rest) pos) tb) : PE X (.BoolOp .And (a :: b :: rest) pos) (SI ta tb) := by
 intro pins s σ H Q I h
 refine BoolOp_and (thn (ha pins s σ H _ I h) fun v s1 ⟨x, H1, I1, r1, q1⟩ => ?_)
 obtain ⟨c, rfl, q1⟩ := q1
 cases r1
 refine wpAny_truthy_bool ?_
 cases c with
 | true => exact hb pins s1 σ H1 Q I1 q1
 | false => exact ⟨.bl false, H1, I1, rfl, q1⟩
theorem NQ (ha : PE X a ta) : PE X (.UnaryOp .Not a pos) (RF ta) := by
 intro pins s σ H Q I h
 refine UnaryOp_ (thn (ha pins s σ H _ I h) fun v s1 ⟨x, H1, I1, r1, q1⟩ => ?_)
 obtain ⟨c, rfl, q1⟩ := q1
 cases r1
 exact not_of (wpAny_truthy_bool ⟨.bl (!c), H1, I1, rfl, q1⟩)
noncomputable def tIf (t : TT) (ta tb : TE) : TE := fun σ H Q => t σ H fun c H1 => if c = true then ta σ H1 Q else tb σ H1 Q
end
end L2
namespace L2
open PySem PySem.Spec PyProof.Rows
noncomputable def SqL (K : PySem.W.Frag) (H : Hp) (a : Addr) (xs : List V) : Prop :=
 Rd H a (.lst xs) ∨
  ∃ (o : Obj) (its : Array Value) (n : Nat), K.lookup a = some o ∧ o.cls = .type "list" ∧ o.dict = none ∧ o.data = .seq its n ∧ its.size ≤ sizeLine ∧ Vals xs its.toList
noncomputable def SqT (K : PySem.W.Frag) (H : Hp) (a : Addr) (xs : List V) : Prop :=
 Rd H a (.tup xs) ∨
  ∃ (o : Obj) (its : Array Value) (n : Nat), K.lookup a = some o ∧ o.cls = .type "tuple" ∧ o.data = .seq its n ∧ its.size ≤ sizeLine ∧ Vals xs its.toList
noncomputable def Zb4 : Value → Option V
 | .none => some .non
 | .bool b => some (.bl b)
 | .int i _ => some (.int i)
 | .str x _ => some (.str x)
 | .bytes b _ => some (.byt b)
 | .float b _ => some (.flt b)
 | .ref a => some (.ref a)
 | .type n => some (.ty n)
 | _ => none
theorem RelV.abs {x : V} {u : Value} (r : RelV x u) : Zb4 u = some x := by
 cases x with
 | non => cases r; rfl
 | bl _ => cases r; rfl
 | int _ => obtain ⟨t, rfl⟩ := r; rfl
 | str _ => obtain ⟨t, rfl⟩ := r; rfl
 | byt _ => obtain ⟨t, rfl⟩ := r; rfl
 | flt _ => obtain ⟨t, rfl⟩ := r; rfl
 | ref _ => cases r; rfl
 | ty _ => cases r; rfl
theorem RelV.inj {x y : V} {u : Value} (r : RelV x u) (q : RelV y u) : x = y := Option.some.inj (r.abs.symm.trans q.abs)
theorem Vals.inj : ∀ {xs ys : List V} {us : List Value}, Vals xs us → Vals ys us → xs = ys
 | _, _, _, .nil, .nil => rfl
 | _, _, _, .cons r t, .cons r' t' => by rw [r.inj r', Vals.inj t t']
section
variable {X : Cx} {pins : List (Addr × Obj)} {σ : St} {H : Hp} {s : Shared} {a : Addr} {xs ys : List V}
theorem SqL.of {K : PySem.W.Frag} (h : H a = some (.lst xs)) : SqL K H a xs := .inl (.inl h)
theorem SqT.of {K : PySem.W.Frag} (h : H a = some (.tup xs)) : SqT K H a xs := .inl (.inl h)
theorem Inv.list (I : Inv X pins σ H s) (h : SqL X.K H a xs) : ∃ its : List Value, Vals xs its ∧ PlainL s.heap a its.toArray ∧ xs.length ≤ sizeLine := by
 rcases h with h | ⟨o, its, n, hk, hc, hd, hs, hz, r⟩
 ·obtain ⟨z, its, n, r, e⟩ := h.ok I.hok
  exact ⟨its, r, ⟨_, n, e, rfl, rfl, rfl⟩, z⟩
 ·refine ⟨its.toList, r, ⟨o, n, I.kIn a o hk, hc, hd, by simpa using hs⟩, ?_⟩
  have e := r.length
  simp only [Array.length_toList] at e
  omega
theorem Inv.tuple (I : Inv X pins σ H s) (h : SqT X.K H a xs) : ∃ its : List Value, Vals xs its ∧ IsTup s.heap a its.toArray ∧ xs.length ≤ sizeLine := by
 rcases h with h | ⟨o, its, n, hk, hc, hs, hz, r⟩
 ·obtain ⟨z, its, r, p⟩ := h.ok I.hok
  exact ⟨its, r, p, z⟩
 ·refine ⟨its.toList, r, ⟨o, I.kIn a o hk, hc, n, by simpa using hs⟩, ?_⟩
  have e := r.length
  simp only [Array.length_toList] at e
  omega
theorem Inv.DU (I : Inv X pins σ H s) (h : SqL X.K H a xs) (h' : SqL X.K H a ys) : xs = ys := by
 obtain ⟨its, r, ⟨o, n, e, _, _, d⟩, _⟩ := I.list h
 obtain ⟨its', r', ⟨o', n', e', _, _, d'⟩, _⟩ := I.list h'
 rw [e] at e'; cases e'
 rw [d] at d'
 injection d' with d1 _
 have : its = its' := by simpa using congrArg Array.toList d1
 subst this
 exact r.inj r'
theorem Inv.U7 (I : Inv X pins σ H s) (h : SqT X.K H a xs) (h' : SqT X.K H a ys) : xs = ys := by
 obtain ⟨its, r, ⟨o, e, _, n, d⟩, _⟩ := I.tuple h
 obtain ⟨its', r', ⟨o', e', _, n', d'⟩, _⟩ := I.tuple h'
 rw [e] at e'; cases e'
 rw [d] at d'
 injection d' with d1 _
 have : its = its' := by simpa using congrArg Array.toList d1
 subst this
 exact r.inj r'
end
noncomputable abbrev Cx.BO (X : Cx) (E : Value → Shared → Prop) : Cx := { X with xe := E }
noncomputable abbrev Cx.nox (X : Cx) : Cx := X.BO fun _ _ => False
theorem Cx.Ok.BO {X : Cx} (ok : X.Ok) (E : Value → Shared → Prop) : (X.BO E).Ok :=
 ⟨ok.mod, ok.kind, ok.glob, ok.blt, ok.above, ok.inj, ok.has, ok.cab, ok.hd, ok.frames, ok.stk, ok.exf, ok.bs, ok.bsz, ok.noex, ok.exfs, ok.GF, ok.frf⟩
theorem Cx.Ok.J1 {X : Cx} {E : Value → Shared → Prop} (ok : (X.BO E).Ok) : X.Ok :=
 ⟨ok.mod, ok.kind, ok.glob, ok.blt, ok.above, ok.inj, ok.has, ok.cab, ok.hd, ok.frames, ok.stk, ok.exf, ok.bs, ok.bsz, ok.noex, ok.exfs, ok.GF, ok.frf⟩
section
variable {X : Cx} {pins : List (Addr × Obj)} {σ : St} {H : Hp} {s : Shared} {E : Value → Shared → Prop}
theorem Inv.BO (I : Inv X pins σ H s) (E : Value → Shared → Prop) : Inv (X.BO E) pins σ H s := ⟨I.ok.BO E, I.os, I.bare, I.base, I.loc, I.cell, I.free, I.freeC, I.pin, I.hok, I.len⟩
theorem Inv.J1 (I : Inv (X.BO E) pins σ H s) : Inv X pins σ H s := ⟨I.ok.J1, I.os, I.bare, I.base, I.loc, I.cell, I.free, I.freeC, I.pin, I.hok, I.len⟩
theorem SP.J1 {D : Ends} {f : Flow} {s' : Shared} (h : SP (X.BO E) pins D f s') : SP X pins D f s' := by
 cases f with
 | next => obtain ⟨σ', H', I, q⟩ := h; exact ⟨σ', H', I.J1, q⟩
 | brk => obtain ⟨σ', H', I, q⟩ := h; exact ⟨σ', H', I.J1, q⟩
 | cont => obtain ⟨σ', H', I, q⟩ := h; exact ⟨σ', H', I.J1, q⟩
 | ret u => obtain ⟨v, σ', H', I, r, q⟩ := h; exact ⟨v, σ', H', I.J1, r, q⟩
theorem PSs.nox {st : List Stmt} {t : TS} (h : PSs X.nox st t) : PSs X st t := fun pins s σ H D I hw =>
 wpAny_mono (h pins s σ H D (I.BO _) hw) (fun _ _ q => q.J1) fun _ _ z => False.elim z
end
section
variable {X : Cx} {st : Stmt} {rest : List Stmt} {t u : TS} {e : Expr} {te : TE} {pos : Pos}
noncomputable def RY : TS := fun D σ H => D.nx σ H
noncomputable def ZbL (t u : TS) : TS := fun D σ H => t { D with nx := u D } σ H
theorem Fh : PSs X [] RY := fun _ _ σ H _ I h => wpAny_execs_nil ⟨σ, H, I, h⟩
theorem CD (h1 : PS X st t) (h2 : PSs X rest u) : PSs X (st :: rest) (ZbL t u) := by
 intro pins s σ H D I h
 refine wpAny_execs_cons (thn (h1 pins s σ H { D with nx := u D } I h) fun f s1 q => ?_)
 cases f with
 | next =>
  obtain ⟨σ', H', I', q⟩ := q
  exact h2 pins s1 σ' H' D I' q
 | ret v => exact q
 | brk => exact q
 | cont => exact q
theorem FL (h1 : PS X st t) : PSs X [st] t := by
 intro pins s σ H D I h
 refine wpAny_execs_cons (thn (h1 pins s σ H D I h) fun f s1 q => ?_)
 cases f with
 | next => exact wpAny_execs_nil q
 | ret v => exact q
 | brk => exact q
 | cont => exact q
noncomputable def Zaw : TS := fun D σ H => D.bk σ H
noncomputable def ZbO : TS := fun D σ H => D.ct σ H
theorem Inv.quiet {pins : List (Addr × Obj)} {σ : St} {H : Hp} {s : Shared} (I : Inv X pins σ H s) : interactive X.env = false := by simp [interactive, I.ok.kind]
noncomputable def RB (te : TE) : TS := fun D σ H => te σ H fun _ H1 => D.nx σ H1
theorem HW (he : PE X e te) (hs : swapsWith e none pos.line X.env = pure false := by rfl) : PS X (.Expr e pos) (RB te) := by
 intro pins s σ H D I h
 exact wpAny_Expr_any (thn (he pins s σ H _ I h) fun v s1 ⟨x, H1, I1, r1, q1⟩ => ⟨σ, H1, I1, q1⟩) I.quiet hs
noncomputable def ZbC (te : TE) : TS := fun D σ H => te σ H D.rt
theorem Oo (he : PE X e te) : PS X (.Return (some e) pos) (ZbC te) := by
 intro pins s σ H D I h
 exact wpAny_Return_some (thn (he pins s σ H _ I h) fun v s1 ⟨x, H1, I1, r1, q1⟩ => ⟨x, σ, H1, I1, r1, q1⟩)
noncomputable def ZaZ : TS := fun D _ H => D.rt .non H
noncomputable def Zbx (c : TT) (t u : TS) : TS := fun D σ H => c σ H fun b H1 => if b = true then t D σ H1 else u D σ H1
theorem S3 {c : Expr} {a b : List Stmt} {tc : TT} (hc : PT X c tc) (ha : PSs X a t) (hb : PSs X b u) : PS X (.If c a b pos) (Zbx tc t u) := by
 intro pins s σ H D I h
 refine wpAny_If (thn (hc pins s σ H _ I h) fun d s1 ⟨H1, I1, q1⟩ => ?_)
 cases d with
 | true => exact ha pins s1 σ H1 D I1 q1
 | false => exact hb pins s1 σ H1 D I1 q1
noncomputable def MQ : TS := fun _ _ _ => False
theorem D3 : PS X st MQ := fun _ _ _ _ _ _ h => h.elim
end
noncomputable abbrev TG := V → St → Hp → (St → Hp → Prop) → Prop
noncomputable abbrev TGs := List V → St → Hp → (St → Hp → Prop) → Prop
noncomputable def PG (X : Cx) (target : Expr) (t : TG) : Prop :=
 ∀ (pins : List (Addr × Obj)) (s : Shared) (σ : St) (H : Hp) (v : V) (u : Value) (Q : St → Hp → Prop), Inv X pins σ H s → RelV v u → t v σ H Q →
  wpAny (model X.prog X.w) X.A (assign target X.env u) (fun _ s' => ∃ σ' H', Inv X pins σ' H' s' ∧ Q σ' H') X.xe s
noncomputable def PGs (X : Cx) (ts : List Expr) (t : TGs) : Prop :=
 ∀ (pins : List (Addr × Obj)) (s : Shared) (σ : St) (H : Hp) (vs : List V) (us : List Value) (Q : St → Hp → Prop), Inv X pins σ H s → Vals vs us → t vs σ H Q →
  wpAny (model X.prog X.w) X.A (assignInOrder ((assignEach ts X.env).map (·.2)) us) (fun _ s' => ∃ σ' H', Inv X pins σ' H' s' ∧ Q σ' H') X.xe s
noncomputable abbrev P5 := V → V → V → Hp → (Hp → Prop) → Prop
noncomputable def ZaD (X : Cx) (t : P5) : Prop :=
 ∀ (pins : List (Addr × Obj)) (s : Shared) (σ : St) (H : Hp) (o i v : V) (ov iv u : Value) (Q : Hp → Prop), Inv X pins σ H s → RelV o ov → RelV i iv → RelV v u → t o i v H Q →
  wpAny (model X.prog X.w) X.A (setItem ov iv u) (fun _ s' => ∃ H', Inv X pins σ H' s' ∧ Q H') X.xe s
noncomputable abbrev TIp := V → V → Hp → VK → Prop
noncomputable def PIp (X : Cx) (op : Operator) (t : TIp) : Prop :=
 ∀ (pins : List (Addr × Obj)) (s : Shared) (σ : St) (H : Hp) (x y : V) (v u : Value) (Q : VK), Inv X pins σ H s → RelV x v → RelV y u → t x y H Q →
  wpAny (model X.prog X.w) X.A (inplaceOp op v u) (EP X pins σ Q) X.xe s
section
variable {X : Cx} {pos : Pos}
noncomputable def O0 (i : Nat) : TG := fun v σ H Q => Q (σ.set i (some v)) H
theorem Bf {i : Nat} {x : Str} (hN : X.N.Nodup) (hi : X.N[i]? = some x) (hx : Loc X.env.scope x) (hf : X.fn x = true ∨ X.env.scope.names.lookup x = some .local := by first | exact .inl rfl | exact .inr rfl | assumption) : PG X (.Name x pos) (O0 i) := by
 intro pins s σ H v u Q I r h
 exact wpAny_assign_Name (WL I hN hi hx r (fun s' I' => ⟨_, H, I', h⟩) hf)
noncomputable def ZbQ : TGs := fun vs σ H Q => vs = [] ∧ Q σ H
noncomputable def Tc (t : TG) (u : TGs) : TGs := fun vs σ H Q => ∃ v r, vs = v :: r ∧ t v σ H fun σ' H' => u r σ' H' Q
theorem HF : PGs X [] ZbQ := by
 intro pins s σ H vs us Q I r h
 obtain ⟨e, h⟩ := h
 subst e
 cases r
 exact assignInOrder_nil ⟨σ, H, I, h⟩
theorem Ck {e : Expr} {es : List Expr} {t : TG} {u : TGs} (h1 : PG X e t) (h2 : PGs X es u)
  (hs : (assignEach (e :: es) X.env).map (·.2) = assign e X.env :: (assignEach es X.env).map (·.2) := by rfl) : PGs X (e :: es) (Tc t u) := by
 intro pins s σ H vs us Q I r h
 obtain ⟨v, vr, e1, h⟩ := h
 subst e1
 cases r with
 | cons r rr =>
  rw [hs]
  refine assignInOrder_cons (thn (h1 pins s σ H _ _ _ I r h) fun _ s1 ⟨σ1, H1, I1, q1⟩ => ?_)
  exact h2 pins s1 σ1 H1 _ _ Q I1 rr q1
noncomputable def ZbF (K : PySem.W.Frag) (n : Nat) (t : TGs) : TG := fun v σ H Q => ∃ a xs, v = .ref a ∧ SqT K H a xs ∧ xs.length = n ∧ t xs σ H Q
theorem Nd {es : List Expr} {k : Nat} {t : TGs} {n : Nat} (hc : X.calm = true) (h : PGs X es t)
  (hn : (assignEach es X.env).length = n := by rfl) (hst : (assignEach es X.env).findIdx? (·.1) = none := by rfl) : PG X (.Tuple es k pos) (ZbF X.K n t) := by
 intro pins s σ H v u Q I r hw
 obtain ⟨a, xs, e1, hq, hl, hw⟩ := hw
 subst e1
 cases r
 obtain ⟨its, rv, ht, hz⟩ := I.tuple hq
 refine assign_Tuple_tuple (I.ok.hd hc) ht (by simp [hn, ← hl, rv.length]) hst fun h' hx => ?_
 have I1 : Inv X pins σ H { s with heap := h' } := I.kept (t' := s.toks) fun b o e => hx b o (Nat.ne_of_lt (Heap.lt_size e)) e
 exact h pins _ σ H xs _ Q I1 (by simpa using rv) hw
noncomputable def Za6 (to ti : TE) (t : P5) : TG := fun v σ H Q => to σ H fun o H1 => ti σ H1 fun i H2 => t o i v H2 fun H3 => Q σ H3
theorem O7 {o i : Expr} {to ti : TE} {t : P5} (ho : PE X o to) (hi : PE X i ti) (hs : ZaD X t)
  (ha : ∀ v, assign (.Subscript o i pos) X.env v = (do
   let ov ← holding [v] (eval o X.env)
   let iv ← holding [v, ov] (eval i X.env)
   standAt pos
   holding [v, ov, iv] (setItem ov iv v)
   release [v, ov, iv] []) := by intro _; rfl) : PG X (.Subscript o i pos) (Za6 to ti t) := by
 intro pins s σ H v u Q I r h
 rw [ha]
 refine wpAny_bind (wpAny_holding (thn (ho pins s σ H _ I h) fun ov s1 ⟨x, H1, I1, r1, q1⟩ => ?_))
 refine wpAny_bind (wpAny_holding (thn (hi pins s1 σ H1 _ I1 q1) fun iv s2 ⟨y, H2, I2, r2, q2⟩ => ?_))
 refine wpAny_bind (wpAny_standAt (wpAny_bind (wpAny_holding (thn (hs pins s2 σ H2 x y v ov iv u _ I2 r1 r2 r q2) fun _ s3 ⟨H3, I3, q3⟩ => ?_))))
 exact wpAny_release ⟨σ, H3, I3, q3⟩
noncomputable def TM (te : TE) (g : TG) : TS := fun D σ H => te σ H fun x H1 => g x σ H1 D.nx
theorem Pu {tg e : Expr} {te : TE} {g : TG} (he : PE X e te) (hg : PG X tg g) (hs : swapsWithSole [tg] e pos.line X.env = pure false := by rfl) (hw : swappedStores [tg] e X.env = pure none := by rfl)
  (h1 : (assignEach [tg] X.env).map (·.2) = [assign tg X.env] := by rfl) : PS X (.Assign [tg] e pos) (TM te g) := by
 intro pins s σ H D I h
 refine wpAny_Assign_stores (thn (he pins s σ H _ I h) fun v s1 ⟨x, H1, I1, r1, q1⟩ => ?_) hs hw
 rw [h1]
 exact thn (hg pins s1 σ H1 x v _ I1 r1 q1) fun _ s2 q => q
theorem MJ {i : Nat} {x : Str} {e : Expr} {te : TE} {pos' : Pos} (hN : X.N.Nodup) (hi : X.N[i]? = some x) (hx : Loc X.env.scope x) (he : PE X e te) (hs : swapsWith e (some (.Name x pos')) pos.line X.env = pure false := by rfl) (hf : X.fn x = true ∨ X.env.scope.names.lookup x = some .local := by first | exact .inl rfl | exact .inr rfl | assumption) :
  PS X (.Assign [.Name x pos'] e pos) (TM te (O0 i)) := by
 intro pins s σ H D I h
 refine wpAny_Assign_Name (thn (he pins s σ H _ I h) fun v s1 ⟨y, H1, I1, r1, q1⟩ => ?_) hs
 exact WL I1 hN hi hx r1 (fun s2 I2 => ⟨_, H1, I2, q1⟩) hf
noncomputable def Zcs (i j : Nat) (ta : TA) : TS := fun D σ H => ta σ H fun vs H1 => ∃ v w, vs = [v, w] ∧ D.nx ((σ.set i (some v)).set j (some w)) H1
noncomputable def Zcq (i : Nat) (te : TE) (ti : TIp) : TS := fun D σ H => ∃ x, σ[i]? = some (some x) ∧ te σ H fun y H1 => ti x y H1 fun z H2 => D.nx (σ.set i (some z)) H2
noncomputable def Zb3 (to ti te : TE) (tget : V → V → Hp → VK → Prop) (tip : TIp) (tset : P5) : TS := fun D σ H => to σ H fun o H1 => ti σ H1 fun i H2 => tget o i H2 fun x H3 => te σ H3 fun y H4 => tip x y H4 fun z H5 => tset o i z H5 fun H6 => D.nx σ H6
noncomputable def Zc1 (X : Cx) (t : V → V → Hp → VK → Prop) : Prop :=
 ∀ (pins : List (Addr × Obj)) (s : Shared) (σ : St) (H : Hp) (o i : V) (ov iv : Value) (Q : VK), Inv X pins σ H s → RelV o ov → RelV i iv → t o i H Q →
  wpAny (model X.prog X.w) X.A (getItem ov iv) (EP X pins σ Q) X.xe s
noncomputable def ipI (f : Int → Int → Int) : TIp := fun x y H Q => ∃ i j, x = .int i ∧ y = .int j ∧ Q (.int (f i j)) H
end
section
variable {X : Cx} {pos : Pos}
noncomputable def Zag (c : TT) (tb : TS) : TS := fun D σ H => ∃ W : Nat → St → Hp → Prop, (∃ m, W m σ H) ∧ ∀ m σ H, W m σ H →
 c σ H fun b H1 => if b = true then ∃ N : St → Hp → Prop, (∀ σ' H', N σ' H' → ∃ m', m' < m ∧ W m' σ' H') ∧ tb { D with nx := N, ct := N, bk := D.nx } σ H1 else D.nx σ H1
end
structure It where
 go : Nat → Hp → Prop
 yld : Nat → Hp → V → Hp → Prop
 stop : Nat → Hp → Prop
noncomputable def UG (X : Cx) (pins : List (Addr × Obj)) (H : Hp) (b : Addr) : Prop :=
 H b = none ∧ b ≠ X.env.locals ∧ b ∉ X.fs ∧ (b ∈ X.ex ∨ X.s₀.heap.objs.size ≤ b) ∧ (∀ x c, X.env.cells.lookup x = some c → c ≠ b) ∧ ∀ p ∈ X.pn ++ pins, p.1 ≠ b
theorem Inv.Mz {X : Cx} {pins : List (Addr × Obj)} {σ : St} {H H' : Hp} {s : Shared} {b : Addr} (I : Inv X pins σ H s) (hb : s.heap.objs.size ≤ b) (hn : H' b = none) : UG X pins H' b := by
 refine ⟨hn, Nat.ne_of_gt (Nat.lt_of_lt_of_le I.lt hb), I.Zbi hb, .inr (Nat.le_trans I.sz hb), fun x c e z => ?_, fun p hp z => ?_⟩
 ·obtain ⟨v, q⟩ := I.cell x c e
  exact absurd (Nat.lt_of_lt_of_le q.lt (by rw [z]; exact hb)) (Nat.lt_irrefl _)
 ·exact absurd (Nat.lt_of_lt_of_le (Heap.lt_size (I.pin p hp).1) (by rw [z]; exact hb)) (Nat.lt_irrefl _)
structure Turn (P : Program) (w : World) (K : PySem.W.Frag) (tg : Expr) (J : It) (fp : List Addr) (it : Addr) (tn : Nat → Heap → Prop) : Prop where
 mem : it ∈ fp
 obj : ∀ i h, tn i h → ∀ b ∈ fp, ∃ o, h.get? b = some o ∧ ∀ v, o.data ≠ .cell v
 keep : ∀ i h h', tn i h → (∀ b ∈ fp, ∀ o, h.get? b = some o → h'.get? b = some o) → tn i h'
 item : ∀ (X : Cx), X.prog = P → X.w = w → X.K = K → X.calm = true → ∀ (i : Nat) (pins : List (Addr × Obj)) (s : Shared) (σ : St) (H : Hp) (E : Value → Shared → Prop), Inv X pins σ H s → (∀ b ∈ fp, UG X pins H b) → tn i s.heap → J.go i H →
  wpAny (model P w) X.A (pyNext (.ref it)) (fun r s1 => ∃ u, r = some u ∧
   wpAny (model P w) X.A (letOwnedTupleGo tg (.ref it) u) (fun _ s2 => ∃ x H', Inv X pins σ H' s2 ∧ RelV x u ∧ J.yld i H x H' ∧ tn (i + 1) s2.heap ∧ ∀ b ∈ fp, H' b = none) E s1) E s
 done : ∀ (X : Cx), X.prog = P → X.w = w → X.K = K → X.calm = true → ∀ (i : Nat) (pins : List (Addr × Obj)) (s : Shared) (σ : St) (H : Hp) (E : Value → Shared → Prop), Inv X pins σ H s → (∀ b ∈ fp, UG X pins H b) → tn i s.heap → J.stop i H →
  wpAny (model P w) X.A (pyNext (.ref it)) (fun r s1 => r = none ∧ Inv X pins σ H s1) E s
 self : ∀ (A : Around) (i : Nat) (s : Shared) (Q : Value → Shared → Prop) (E : Value → Shared → Prop), tn i s.heap → Q (.ref it) s → wpAny (model P w) A (pyIter (.ref it)) Q E s
noncomputable abbrev TI := St → Hp → (It → Hp → Prop) → Prop
noncomputable def PIE (X : Cx) (pins : List (Addr × Obj)) (σ : St) (tg : Expr) (R : It → Hp → Prop) (itv : Value) (s2 : Shared) : Prop :=
 ∃ (it : Addr) (fp : List Addr) (tn : Nat → Heap → Prop) (J : It) (H' : Hp), itv = .ref it ∧ Inv X pins σ H' s2 ∧ Turn X.prog X.w X.K tg J fp it tn ∧ tn 0 s2.heap ∧ (∀ b ∈ fp, UG X pins H' b) ∧ R J H'
noncomputable def PI (X : Cx) (tg iter : Expr) (wi : TI) : Prop :=
 ∀ (pins : List (Addr × Obj)) (s : Shared) (σ : St) (H : Hp) (R : It → Hp → Prop), Inv X pins σ H s → wi σ H R →
  wpAny (model X.prog X.w) X.A (eval iter X.env) (fun v s1 => wpAny (model X.prog X.w) X.A (pyIter v) (PIE X pins σ tg R) X.xe s1) X.xe s
theorem LO {M : Model} {A : Around} {E : Value → Shared → Prop} {s : Shared} {tg : Expr} {it : Addr} {u : Value} {o : Obj} {n : String} {vs : Array Value} {Q : Unit → Shared → Prop} (ho : s.heap.get? it = some o) (hc : o.cls = .type n) (hd : o.data = .fields vs)
    (hn : ["enumerate", "zip", "dict_itemiterator", "dict_reverseitemiterator", "odict_iterator", "itertools.zip_longest", "itertools.pairwise"].contains n = false) (hQ : Q () s) : wpAny M A (letOwnedTupleGo tg (.ref it) u) Q E s := by
  unfold letOwnedTupleGo
  cases tg <;> first
    | exact wpAny_pure hQ
    | (cases u <;> first
        | exact wpAny_pure hQ
        | (refine wpAny_bind (wpAny_load ho ?_)
           rw [hc, hd]
           show wpAny M A (if (["enumerate", "zip", "dict_itemiterator", "dict_reverseitemiterator", "odict_iterator", "itertools.zip_longest", "itertools.pairwise"].contains n && vs[0]? == some (rawInt _)) = true then _ else _) Q E s
           rw [if_neg (by intro h; rw [hn, Bool.false_and] at h; cases h)]
           exact wpAny_pure hQ))
noncomputable def Itl (K : PySem.W.Frag) (a : Addr) : It :=
 ⟨fun i H => ∃ xs x, SqL K H a xs ∧ xs[i]? = some x, fun i H x H' => H' = H ∧ ∀ xs, SqL K H a xs → xs[i]? = some x, fun i H => ∃ xs, SqL K H a xs ∧ xs.length ≤ i⟩
noncomputable def Itt (K : PySem.W.Frag) (a : Addr) : It :=
 ⟨fun i H => ∃ xs x, SqT K H a xs ∧ xs[i]? = some x, fun i H x H' => H' = H ∧ ∀ xs, SqT K H a xs → xs[i]? = some x, fun i H => ∃ xs, SqT K H a xs ∧ xs.length ≤ i⟩
noncomputable def Itr (lo : Int) (n : Nat) : It := ⟨fun i _ => i < n, fun i H x H' => H' = H ∧ x = .int (lo + i), fun i _ => n ≤ i⟩
theorem XO {P : Program} {w : World} {K : PySem.W.Frag} {tg : Expr} (a it : Addr) : Turn P w K tg (Itl K a) [it] it (fun i h => h.IsListIter it a i) where
 mem := by simp
 obj := fun i h st b hb => by
  have e : b = it := by simpa using hb
  subst e
  obtain ⟨o, e, c, d⟩ := st
  exact ⟨o, e, fun v z => by rw [d] at z; cases z⟩
 keep := fun i h h' st k => st.at fun o e => k it (by simp) o e
 item := by
  intro X hP hw hK hc i pins s σ H E I hf st hg
  subst hP hw hK
  obtain ⟨xs, x, hq, hx⟩ := hg
  obtain ⟨its, rv, p, hz⟩ := I.list hq
  obtain ⟨u, hu, ru⟩ := rv.get hx
  obtain ⟨f0, f1, f2, f3, f4, f5⟩ := hf it (by simp)
  refine wpAny_pyNext_list_item st p.isList (x := u) (by simpa using hu) fun h' st' sb => ?_
  have I1 : Inv X pins σ H { s with heap := h' } := I.turned (t' := s.toks) (fun b o hb e => (sb.2 b hb).trans e) f0 f1 f3 f4 f5
  obtain ⟨o, e, c, d⟩ := id st'
  exact ⟨u, rfl, LO (s := { s with heap := h' }) e c d (by decide) ⟨x, H, I1, ru, ⟨rfl, fun ys hy => by rw [I.DU hy hq]; exact hx⟩, st', fun b hb => (hf b hb).1⟩⟩
 done := by
  intro X hP hw hK hc i pins s σ H E I hf st hg
  subst hP hw hK
  obtain ⟨xs, hq, hx⟩ := hg
  obtain ⟨its, rv, p, hz⟩ := I.list hq
  obtain ⟨f0, f1, f2, f3, f4, f5⟩ := hf it (by simp)
  have hl := rv.length
  exact wpAny_pyNext_list_end (I.ok.hd hc) st p.isList (by simp; omega) fun h' eb => ⟨rfl, I.turned (t' := s.toks) (fun b o hb e => eb b o hb e) f0 f1 f3 f4 f5⟩
 self := fun _ _ _ _ _ st h => wpAny_pyIter_listiter st h
theorem Yc {P : Program} {w : World} {K : PySem.W.Frag} {tg : Expr} (a it : Addr) : Turn P w K tg (Itt K a) [it] it (fun i h => h.IsTupleIter it a i) where
 mem := by simp
 obj := fun i h st b hb => by
  have e : b = it := by simpa using hb
  subst e
  obtain ⟨o, e, c, d⟩ := st
  exact ⟨o, e, fun v z => by rw [d] at z; cases z⟩
 keep := fun i h h' st k => st.at fun o e => k it (by simp) o e
 item := by
  intro X hP hw hK hc i pins s σ H E I hf st hg
  subst hP hw hK
  obtain ⟨xs, x, hq, hx⟩ := hg
  obtain ⟨its, rv, p, hz⟩ := I.tuple hq
  obtain ⟨u, hu, ru⟩ := rv.get hx
  obtain ⟨f0, f1, f2, f3, f4, f5⟩ := hf it (by simp)
  refine wpAny_pyNext_tuple_item st (show s.heap.IsTuple a its.toArray from p) (x := u) (by simpa using hu) fun h' st' sb => ?_
  have I1 : Inv X pins σ H { s with heap := h' } := I.turned (t' := s.toks) (fun b o hb e => (sb.2 b hb).trans e) f0 f1 f3 f4 f5
  obtain ⟨o, e, c, d⟩ := id st'
  exact ⟨u, rfl, LO (s := { s with heap := h' }) e c d (by decide) ⟨x, H, I1, ru, ⟨rfl, fun ys hy => by rw [I.U7 hy hq]; exact hx⟩, st', fun b hb => (hf b hb).1⟩⟩
 done := by
  intro X hP hw hK hc i pins s σ H E I hf st hg
  subst hP hw hK
  obtain ⟨xs, hq, hx⟩ := hg
  obtain ⟨its, rv, p, hz⟩ := I.tuple hq
  obtain ⟨f0, f1, f2, f3, f4, f5⟩ := hf it (by simp)
  have hl := rv.length
  exact wpAny_pyNext_tuple_end (I.ok.hd hc) st (show s.heap.IsTuple a its.toArray from p) (by simp; omega) fun h' eb => ⟨rfl, I.turned (t' := s.toks) (fun b o hb e => eb b o hb e) f0 f1 f3 f4 f5⟩
 self := fun _ _ _ _ _ st h => wpAny_pyIter_tupleiter st h
theorem Uq {P : Program} {w : World} {K : PySem.W.Frag} {tg : Expr} (it : Addr) (lo : Int) (n : Nat) : Turn P w K tg (Itr lo n) [it] it (fun i h => IsRangeIter h it (lo + (i : Nat) * 1) ((n : Int) - (i : Nat)) 1) where
 mem := by simp
 obj := fun i h st b hb => by
  have e : b = it := by simpa using hb
  subst e
  exact ⟨_, st, fun v z => by
   have z' : Data.fields _ = Data.cell v := z
   cases z'⟩
 keep := fun i h h' st k => k it (by simp) _ st
 item := by
  intro X hP hw hK hc i pins s σ H E I hf st hg
  subst hP hw hK
  obtain ⟨f0, f1, f2, f3, f4, f5⟩ := hf it (by simp)
  have W := Walks.range (prog := X.prog) (w := X.w) (I.ok.hd hc) it lo 1 n
  refine W.item i s _ _ hg st fun v h' tk hv st' kk => ?_
  obtain ⟨t, rfl⟩ := hv
  have I1 : Inv X pins σ H { s with heap := h', toks := tk } := I.turned (fun b o hb e => kk b o (by simpa using hb) e) f0 f1 f3 f4 f5
  refine ⟨_, rfl, LO (s := { s with heap := h', toks := tk }) (n := "range_iterator") st' rfl rfl (by decide) ⟨.int (lo + i), H, I1, ⟨t, ?_⟩, ⟨rfl, rfl⟩, st', fun b hb => (hf b hb).1⟩⟩
  rw [Int.mul_one]
 done := by
  intro X hP hw hK hc i pins s σ H E I hf st hg
  subst hP hw hK
  obtain ⟨f0, f1, f2, f3, f4, f5⟩ := hf it (by simp)
  exact wpAny_pyNext_range_end (I.ok.hd hc) st (by have : n ≤ i := hg; omega) fun h' eb => ⟨rfl, I.turned (t' := s.toks) (fun b o hb e => eb b o hb e) f0 f1 f3 f4 f5⟩
 self := fun _ _ _ _ _ st h => wpAny_pyIter_rangeiter st h
end L2
namespace L2
open PySem PySem.Spec PyProof.Rows
section
variable {X : Cx} {tg : Expr}
noncomputable def To (K : PySem.W.Frag) (tl : TE) : TI := fun σ H R => tl σ H fun x H1 => ∃ a, x = .ref a ∧ (∃ xs, SqL K H1 a xs) ∧ R (Itl K a) H1
noncomputable def Zbe (K : PySem.W.Frag) (tl : TE) : TI := fun σ H R => tl σ H fun x H1 => ∃ a, x = .ref a ∧ (∃ xs, SqT K H1 a xs) ∧ R (Itt K a) H1
theorem Fv {l : Expr} {tl : TE} (hl : PE X l tl) : PI X tg l (To X.K tl) := by
 intro pins s σ H R I h
 refine thn (hl pins s σ H _ I h) fun v s1 ⟨x, H1, I1, r1, q1⟩ => ?_
 obtain ⟨a, e, ⟨xs, hq⟩, q⟩ := q1
 subst e
 cases r1
 obtain ⟨its, rv, p, hz⟩ := I1.list hq
 refine wpAny_pyIter_list p.isList ?_
 refine ⟨s1.heap.objs.size, [s1.heap.objs.size], _, _, H1, rfl, I1.kept (t' := s1.toks) fun b o e => Heap.get?_push_of_some _ e, XO a _, ⟨_, Heap.get?_push_size _ rfl, rfl, rfl⟩, fun b hb => ?_, q⟩
 have e : b = s1.heap.objs.size := by simpa using hb
 subst e
 exact I1.Mz (Nat.le_refl _) (I1.hok.fresh (Nat.le_refl _))
theorem E2 {l : Expr} {tl : TE} (hl : PE X l tl) : PI X tg l (Zbe X.K tl) := by
 intro pins s σ H R I h
 refine thn (hl pins s σ H _ I h) fun v s1 ⟨x, H1, I1, r1, q1⟩ => ?_
 obtain ⟨a, e, ⟨xs, hq⟩, q⟩ := q1
 subst e
 cases r1
 obtain ⟨its, rv, p, hz⟩ := I1.tuple hq
 refine wpAny_pyIter_tuple (show s1.heap.IsTuple a its.toArray from p) ?_
 refine ⟨s1.heap.objs.size, [s1.heap.objs.size], _, _, H1, rfl, I1.kept (t' := s1.toks) fun b o e => Heap.get?_push_of_some _ e, Yc a _, ⟨_, Heap.get?_push_size _ rfl, rfl, rfl⟩, fun b hb => ?_, q⟩
 have e : b = s1.heap.objs.size := by simpa using hb
 subst e
 exact I1.Mz (Nat.le_refl _) (I1.hok.fresh (Nat.le_refl _))
theorem Wk {pins : List (Addr × Obj)} {σ : St} {H : Hp} {s : Shared} {R : It → Hp → Prop} {E : Value → Shared → Prop} {lo hi : Int} {t u v : Tok} {tk : Nat} (I : Inv X pins σ H s) (h1 : -(2 ^ 62) ≤ lo) (h2 : lo < 2 ^ 62) (h3 : -(2 ^ 62) ≤ hi) (h4 : hi < 2 ^ 62)
  (q : R (Itr lo (hi - lo).toNat) H) : wpAny (model X.prog X.w) X.A (pyIter (.ref s.heap.objs.size)) (PIE X pins σ tg R) E { s with heap := s.heap.push { cls := .type "range", data := .fields #[.int lo t, .int hi u, .int 1 v] }, toks := tk } := by
 refine wpAny_pyIter_range (IsRange.new ..) (small_one h1 h2 h3 h4) ?_
 have I1 : Inv X pins σ H { s with heap := s.heap.push { cls := .type "range", data := .fields #[.int lo t, .int hi u, .int 1 v] }, toks := tk } := I.kept fun b o e => Heap.get?_push_of_some _ e
 refine ⟨(s.heap.push { cls := .type "range", data := .fields #[.int lo t, .int hi u, .int 1 v] }).objs.size, [(s.heap.push { cls := .type "range", data := .fields #[.int lo t, .int hi u, .int 1 v] }).objs.size], _, _, H, rfl,
  I1.kept (t' := tk) fun b o e => Heap.get?_push_of_some _ e, Uq _ lo (hi - lo).toNat, ?_, fun b hb => ?_, q⟩
 ·have e1 : lo + ((0 : Nat) : Int) * 1 = lo := by simp
  have e2 : (((hi - lo).toNat : Nat) : Int) - ((0 : Nat) : Int) = Builtin.Range.rangeSize lo hi 1 := by rw [rangeSize_one]; split <;> omega
  show IsRangeIter _ _ (lo + ((0 : Nat) : Int) * 1) ((((hi - lo).toNat : Nat) : Int) - ((0 : Nat) : Int)) 1
  rw [e1, e2]
  exact Heap.get?_push_size _ rfl
 ·have e : b = (s.heap.push { cls := .type "range", data := .fields #[.int lo t, .int hi u, .int 1 v] }).objs.size := by simpa using hb
  subst e
  exact I1.Mz (Nat.le_refl _) (I1.hok.fresh (Nat.le_refl _))
noncomputable def Tf (ta : TA) : TI := fun σ H R => ta σ H fun vs H1 => ∃ j : Int, vs = [.int j] ∧ -(2 ^ 62) ≤ j ∧ j < 2 ^ 62 ∧ R (Itr 0 j.toNat) H1
noncomputable def Sb (ta : TA) : TI := fun σ H R => ta σ H fun vs H1 => ∃ i j : Int, vs = [.int i, .int j] ∧ (-(2 ^ 62) ≤ i ∧ i < 2 ^ 62 ∧ -(2 ^ 62) ≤ j ∧ j < 2 ^ 62) ∧ R (Itr i (j - i).toNat) H1
theorem Y5 {a : Expr} {ta : TA} {p pos : Pos} (hg : Gl X "range") (hm : X.mg "range" = none) (ha : PA X [a] ta) (hs : starEach [a] X.env = [(false, eval a X.env)] := by rfl) : PI X tg (.Call (.Name "range" p) [a] [] pos) (Tf ta) := by
 intro pins s σ H R I h
 refine Call_ (X3 I hg hm boot_range (PyProof.Rows.callWith_type1 (thn (ha pos pins s σ H _ I h) fun us s1 ⟨vs, H1, I1, r1, q1⟩ => ?_) hs rfl))
 obtain ⟨j, e, q1, q2, q⟩ := q1
 subst e
 cases r1 with
 | cons r rr =>
  cases rr
  obtain ⟨t, rfl⟩ := r
  exact call_range_1 (Wk I1 (by omega) (by omega) q1 q2 (by simpa using q))
theorem Bo {a b : Expr} {ta : TA} {p pos : Pos} (hg : Gl X "range") (hm : X.mg "range" = none) (ha : PA X [a, b] ta) (hs : starEach [a, b] X.env = [(false, eval a X.env), (false, eval b X.env)] := by rfl) (hs2 : starEach [b] X.env = [(false, eval b X.env)] := by rfl) :
  PI X tg (.Call (.Name "range" p) [a, b] [] pos) (Sb ta) := by
 intro pins s σ H R I h
 refine Call_ (X3 I hg hm boot_range (PyProof.Rows.callWith_type1 (thn (ha pos pins s σ H _ I h) fun us s1 ⟨vs, H1, I1, r1, q1⟩ => ?_) (by rw [hs, hs2]) (by rw [hs2]; rfl)))
 obtain ⟨i, j, e, ⟨q1, q2, q3, q4⟩, q⟩ := q1
 subst e
 cases r1 with
 | cons r rr =>
  cases rr with
  | cons r' rr =>
   cases rr
   obtain ⟨t, rfl⟩ := r
   obtain ⟨t', rfl⟩ := r'
   exact call_range_2 (Wk I1 q1 q2 q3 q4 q)
noncomputable def Zbn (wi : TI) (g : TG) (tb : TS) : TS := fun D σ H => wi σ H fun J H1 => ∃ W : Nat → Nat → St → Hp → Prop, (∃ m, W 0 m σ H1) ∧ ∀ i m σ H, W i m σ H →
 (J.stop i H ∧ D.nx σ H) ∨ (J.go i H ∧ ∃ N : St → Hp → Prop, (∀ σ' H', N σ' H' → ∃ m', m' < m ∧ W (i + 1) m' σ' H') ∧ ∀ x H', J.yld i H x H' → g x σ H' fun σ2 H2 => tb { D with nx := N, ct := N, bk := D.nx } σ2 H2)
noncomputable def Xr (fp : List Addr) (h : Heap) : List (Addr × Obj) := fp.filterMap fun b => (h.get? b).map fun o => (b, o)
theorem Q6 {fp : List Addr} {h : Heap} {b : Addr} {o : Obj} (hb : b ∈ fp) (e : h.get? b = some o) : (b, o) ∈ Xr fp h := List.mem_filterMap.mpr ⟨b, hb, by rw [e]; rfl⟩
theorem GO {fp : List Addr} {h : Heap} {p : Addr × Obj} (hp : p ∈ Xr fp h) : p.1 ∈ fp ∧ h.get? p.1 = some p.2 := by
 obtain ⟨b, hb, e⟩ := List.mem_filterMap.mp hp
 cases q : h.get? b with
 | none => rw [q] at e; cases e
 | some o =>
  rw [q] at e
  have e' : (b, o) = p := Option.some.inj e
  subst e'
  exact ⟨hb, q⟩
theorem Inv.pinned {pins : List (Addr × Obj)} {σ : St} {H : Hp} {s : Shared} {fp : List Addr} (I : Inv X pins σ H s) (hf : ∀ b ∈ fp, UG X pins H b) (ho : ∀ b ∈ fp, ∃ o, s.heap.get? b = some o ∧ ∀ v, o.data ≠ .cell v) : Inv X (pins ++ Xr fp s.heap) σ H s :=
 I.Vz fun p hp => (List.mem_append.mp hp).elim (fun z => I.pin p (List.mem_append_right _ z)) fun z => by
  obtain ⟨hb, e⟩ := GO z
  obtain ⟨f0, f1, f2, _⟩ := hf p.1 hb
  obtain ⟨o, e', d⟩ := ho p.1 hb
  rw [e] at e'; cases e'
  exact ⟨e, f0, f1, f2, d⟩
theorem Inv.Y2 {pins pl : List (Addr × Obj)} {σ : St} {H : Hp} {s : Shared} (I : Inv X (pins ++ pl) σ H s) : Inv X pins σ H s := I.Vz fun p hp => I.pin p (List.mem_append_right _ (List.mem_append_left _ hp))
theorem WK {iter : Expr} {body : List Stmt} {wi : TI} {g : TG} {tb : TS} {pos : Pos} (hp : PassesOwn (model X.prog X.w) X.A X.env X.xe) (hc : X.calm = true) (hi : PI X tg iter wi) (hg : PG X tg g) (hb : PSs X body tb)
  (hs : ∀ x, foldedSetIterable iter X.env x = pure x := by intro _; rfl) : PS X (.For tg iter body [] pos) (Zbn wi g tb) := by
 intro pins s σ H D I h
 refine wpAny_For (thn (hi pins s σ H _ I h) fun v s1 h1 => thn h1 fun itv s2 h2 => ?_) hs
 obtain ⟨it, fp, tn, J, H2, e, I2, T, st2, f2, W, ⟨m0, w0⟩, turn⟩ := h2
 subst e
 have stat : ∀ {H' : Hp}, (∀ b ∈ fp, H' b = none) → ∀ b ∈ fp, UG X pins H' b := fun hn b hb => ⟨hn b hb, (f2 b hb).2⟩
 refine codeAny_forLoop_any (fun n s' => ∃ i σ' H', Inv X pins σ' H' s' ∧ tn i s'.heap ∧ (∀ b ∈ fp, H' b = none) ∧ W i n σ' H') ?_ m0 ⟨0, σ, H2, I2, st2, fun b hb => (f2 b hb).1, w0⟩
 rintro n s3 ⟨i, σ3, H3, I3, st3, fr3, w3⟩
 rcases turn i n σ3 H3 w3 with ⟨stop, qn⟩ | ⟨go, N, hN, step⟩
 ·refine wpAny_passesOwn hp (thn (T.done X rfl rfl rfl hc i pins s3 σ3 H3 X.xe I3 (stat fr3) st3 stop) fun r s4 ⟨hr, I4⟩ => ?_)
  subst hr
  exact wpAny_execs_nil ⟨σ3, H3, I4, qn⟩
 ·refine wpAny_passesOwn hp (thn (T.item X rfl rfl rfl hc i pins s3 σ3 H3 X.xe I3 (stat fr3) st3 go) fun r s4 ⟨u, hr, h4⟩ => ?_)
  subst hr
  refine wpAny_passesOwn hp (thn h4 fun _ s5 ⟨x, H5, I5, r5, y5, st5, fr5⟩ => ?_)
  have I5' := I5.pinned (stat fr5) (T.obj _ _ st5)
  refine wpAny_passesOwn hp (thn (hg _ s5 σ3 H5 x u _ I5' r5 (step x H5 y5)) fun _ s6 ⟨σ6, H6, I6, q6⟩ => ?_)
  refine wpAny_passesOwn hp (thn (hb _ s6 σ6 H6 _ I6 q6) fun f s7 q7 => ?_)
  have again : ∀ {σ7 : St} {H7 : Hp}, Inv X (pins ++ Xr fp s5.heap) σ7 H7 s7 → N σ7 H7 → ∃ m, m < n ∧ ∃ i σ' H', Inv X pins σ' H' s7 ∧ tn i s7.heap ∧ (∀ b ∈ fp, H' b = none) ∧ W i m σ' H' := fun {σ7 H7} I7 n7 => by
   obtain ⟨m', hm, w7⟩ := hN σ7 H7 n7
   refine ⟨m', hm, i + 1, σ7, H7, I7.Y2, T.keep _ _ _ st5 fun b hb o e => (I7.pin (b, o) (List.mem_append_right _ (List.mem_append_right _ (Q6 hb e)))).1, fun b hb => ?_, w7⟩
   obtain ⟨o, e, d⟩ := T.obj _ _ st5 b hb
   exact (I7.pin (b, o) (List.mem_append_right _ (List.mem_append_right _ (Q6 hb e)))).2.1
  cases f with
  | next => obtain ⟨σ7, H7, I7, n7⟩ := q7; exact again I7 n7
  | cont => obtain ⟨σ7, H7, I7, n7⟩ := q7; exact again I7 n7
  | brk => obtain ⟨σ7, H7, I7, q7⟩ := q7; exact ⟨σ7, H7, I7.Y2, q7⟩
  | ret v => obtain ⟨x7, σ7, H7, I7, r7, q7⟩ := q7; exact ⟨x7, σ7, H7, I7.Y2, r7, q7⟩
end
theorem CP {K : PySem.W.Frag} {a : Addr} {xs : List V} {g : TG} {tb : TS} {D : Ends} {σ : St} {H : Hp} (Pv : Nat → St → Hp → Prop) (h0 : Pv 0 σ H) (hl : ∀ i σ H, i ≤ xs.length → Pv i σ H → SqL K H a xs)
  (hs : ∀ i x σ H, xs[i]? = some x → Pv i σ H → g x σ H fun σ2 H2 => tb { D with nx := Pv (i + 1), ct := Pv (i + 1), bk := D.nx } σ2 H2) (hd : ∀ σ H, Pv xs.length σ H → D.nx σ H) :
  ∃ W : Nat → Nat → St → Hp → Prop, (∃ m, W 0 m σ H) ∧ ∀ i m σ H, W i m σ H →
   ((Itl K a).stop i H ∧ D.nx σ H) ∨ ((Itl K a).go i H ∧ ∃ N : St → Hp → Prop, (∀ σ' H', N σ' H' → ∃ m', m' < m ∧ W (i + 1) m' σ' H') ∧ ∀ x H', (Itl K a).yld i H x H' → g x σ H' fun σ2 H2 => tb { D with nx := N, ct := N, bk := D.nx } σ2 H2) := by
 refine ⟨fun i m σ H => m = xs.length - i ∧ i ≤ xs.length ∧ Pv i σ H, ⟨xs.length, by simp, Nat.zero_le _, h0⟩, ?_⟩
 rintro i m σ H ⟨rfl, hi, p⟩
 have q := hl i σ H hi p
 by_cases hlt : i < xs.length
 ·refine .inr ⟨⟨xs, xs[i], q, by simp [hlt]⟩, Pv (i + 1), fun σ' H' p' => ⟨xs.length - (i + 1), by omega, rfl, hlt, p'⟩, fun x H' y => ?_⟩
  obtain ⟨e, y⟩ := y
  subst e
  exact hs i x σ _ (y xs q) p
 ·have e : i = xs.length := by omega
  subst e
  exact .inl ⟨⟨xs, q, Nat.le_refl _⟩, hd σ H p⟩
theorem LL {K : PySem.W.Frag} {a : Addr} {xs : List V} {g : TG} {tb : TS} {D : Ends} {σ : St} {H : Hp} (Pv : Nat → St → Hp → Prop) (h0 : Pv 0 σ H) (hl : ∀ i σ H, i ≤ xs.length → Pv i σ H → SqT K H a xs)
  (hs : ∀ i x σ H, xs[i]? = some x → Pv i σ H → g x σ H fun σ2 H2 => tb { D with nx := Pv (i + 1), ct := Pv (i + 1), bk := D.nx } σ2 H2) (hd : ∀ σ H, Pv xs.length σ H → D.nx σ H) :
  ∃ W : Nat → Nat → St → Hp → Prop, (∃ m, W 0 m σ H) ∧ ∀ i m σ H, W i m σ H →
   ((Itt K a).stop i H ∧ D.nx σ H) ∨ ((Itt K a).go i H ∧ ∃ N : St → Hp → Prop, (∀ σ' H', N σ' H' → ∃ m', m' < m ∧ W (i + 1) m' σ' H') ∧ ∀ x H', (Itt K a).yld i H x H' → g x σ H' fun σ2 H2 => tb { D with nx := N, ct := N, bk := D.nx } σ2 H2) := by
 refine ⟨fun i m σ H => m = xs.length - i ∧ i ≤ xs.length ∧ Pv i σ H, ⟨xs.length, by simp, Nat.zero_le _, h0⟩, ?_⟩
 rintro i m σ H ⟨rfl, hi, p⟩
 have q := hl i σ H hi p
 by_cases hlt : i < xs.length
 ·refine .inr ⟨⟨xs, xs[i], q, by simp [hlt]⟩, Pv (i + 1), fun σ' H' p' => ⟨xs.length - (i + 1), by omega, rfl, hlt, p'⟩, fun x H' y => ?_⟩
  obtain ⟨e, y⟩ := y
  subst e
  exact hs i x σ _ (y xs q) p
 ·have e : i = xs.length := by omega
  subst e
  exact .inl ⟨⟨xs, q, Nat.le_refl _⟩, hd σ H p⟩
theorem US {lo : Int} {n : Nat} {g : TG} {tb : TS} {D : Ends} {σ : St} {H : Hp} (Pv : Nat → St → Hp → Prop) (h0 : Pv 0 σ H)
  (hs : ∀ i σ H, i < n → Pv i σ H → g (.int (lo + i)) σ H fun σ2 H2 => tb { D with nx := Pv (i + 1), ct := Pv (i + 1), bk := D.nx } σ2 H2) (hd : ∀ σ H, Pv n σ H → D.nx σ H) :
  ∃ W : Nat → Nat → St → Hp → Prop, (∃ m, W 0 m σ H) ∧ ∀ i m σ H, W i m σ H →
   ((Itr lo n).stop i H ∧ D.nx σ H) ∨ ((Itr lo n).go i H ∧ ∃ N : St → Hp → Prop, (∀ σ' H', N σ' H' → ∃ m', m' < m ∧ W (i + 1) m' σ' H') ∧ ∀ x H', (Itr lo n).yld i H x H' → g x σ H' fun σ2 H2 => tb { D with nx := N, ct := N, bk := D.nx } σ2 H2) := by
 refine ⟨fun i m σ H => m = n - i ∧ i ≤ n ∧ Pv i σ H, ⟨n, by simp, Nat.zero_le _, h0⟩, ?_⟩
 rintro i m σ H ⟨rfl, hi, p⟩
 by_cases hlt : i < n
 ·refine .inr ⟨hlt, Pv (i + 1), fun σ' H' p' => ⟨n - (i + 1), by omega, rfl, hlt, p'⟩, fun x H' y => ?_⟩
  obtain ⟨e, y⟩ := y
  subst e y
  exact hs i σ _ hlt p
 ·have e : i = n := by omega
  subst e
  exact .inl ⟨Nat.le_refl _, hd σ H p⟩
end L2
namespace L2
open PySem PySem.Spec PyProof.Rows
noncomputable abbrev R2 := V → V → Hp → VK → Prop
noncomputable def OpR (X : Cx) (f : Value → Value → Sem Value) (r : R2) : Prop :=
 ∀ (pins : List (Addr × Obj)) (s : Shared) (σ : St) (H : Hp) (x y : V) (v u : Value) (Q : VK), Inv X pins σ H s → RelV x v → RelV y u → r x y H Q →
  wpAny (model X.prog X.w) X.A (f v u) (EP X pins σ Q) X.xe s
noncomputable def UnR (X : Cx) (f : Value → Sem Value) (r : V → Hp → VK → Prop) : Prop :=
 ∀ (pins : List (Addr × Obj)) (s : Shared) (σ : St) (H : Hp) (x : V) (v : Value) (Q : VK), Inv X pins σ H s → RelV x v → r x H Q →
  wpAny (model X.prog X.w) X.A (f v) (EP X pins σ Q) X.xe s
noncomputable def QA (X : Cx) (f : Value) (r : List V → Hp → VK → Prop) : Prop :=
 ∀ (pins : List (Addr × Obj)) (s : Shared) (σ : St) (H : Hp) (xs : List V) (us : List Value) (Q : VK), Inv X pins σ H s → Vals xs us → r xs H Q →
  wpAny (model X.prog X.w) X.A (call f us) (EP X pins σ Q) X.xe s
noncomputable def ZcF (X : Cx) (r : V → Hp → (Bool → Hp → Prop) → Prop) : Prop :=
 ∀ (pins : List (Addr × Obj)) (s : Shared) (σ : St) (H : Hp) (x : V) (v : Value) (Q : Bool → Hp → Prop), Inv X pins σ H s → RelV x v → r x H Q →
  wpAny (model X.prog X.w) X.A (truthy v) (TP X pins σ Q) X.xe s
noncomputable def tOp (r : R2) (ta tb : TE) : TE := fun σ H Q => ta σ H fun x H1 => tb σ H1 fun y H2 => r x y H2 Q
noncomputable def tUn (r : V → Hp → VK → Prop) (ta : TE) : TE := fun σ H Q => ta σ H fun x H1 => r x H1 Q
noncomputable def rI (C : Int → Int → Prop) (g : Int → Int → V) : R2 := fun x y H Q => ∃ i j, x = .int i ∧ y = .int j ∧ C i j ∧ Q (g i j) H
noncomputable def rI0 (g : Int → Int → V) : R2 := fun x y H Q => ∃ i j, x = .int i ∧ y = .int j ∧ Q (g i j) H
noncomputable def rU (g : Int → V) : V → Hp → VK → Prop := fun x H Q => ∃ i, x = .int i ∧ Q (g i) H
section
variable {X : Cx} {a b c : Expr} {ta tb tc : TE} {pos : Pos}
theorem RQ (ha : PE X a ta) (hb : PE X b tb) {pins : List (Addr × Obj)} {s : Shared} {σ : St} {H : Hp} {R : V → V → Hp → Prop} (I : Inv X pins σ H s)
  (h : ta σ H fun x H1 => tb σ H1 fun y H2 => R x y H2) {Q : Value → Shared → Prop} {f : Value → Value → Sem Value}
  (hf : ∀ v u s2 x y H2, Inv X pins σ H2 s2 → RelV x v → RelV y u → R x y H2 → wpAny (model X.prog X.w) X.A (f v u) Q X.xe s2) :
  wpAny (model X.prog X.w) X.A (eval a X.env) (fun v s₁ => wpAny (model X.prog X.w) X.A (eval b X.env) (fun u s₂ => wpAny (model X.prog X.w) X.A (f v u) Q X.xe s₂) X.xe s₁) X.xe s := by
 refine thn (ha pins s σ H _ I h) fun v s1 ⟨x, H1, I1, r1, q1⟩ => ?_
 refine thn (hb pins s1 σ H1 _ I1 q1) fun u s2 ⟨y, H2, I2, r2, q2⟩ => ?_
 exact hf v u s2 x y H2 I2 r1 r2 q2
theorem RA {op : Operator} {r : R2} (ho : OpR X (binaryOp op) r) (ha : PE X a ta) (hb : PE X b tb) : PE X (.BinOp a op b pos) (tOp r ta tb) := by
 intro pins s σ H Q I h
 exact wpAny_BinOp (RQ ha hb I h fun v u s2 x y H2 I2 rx ry q => ho pins s2 σ H2 x y v u Q I2 rx ry q)
theorem RW {op : UnaryOp} {r : V → Hp → VK → Prop} (ho : UnR X (unaryOp op) r) (ha : PE X a ta) : PE X (.UnaryOp op a pos) (tUn r ta) := by
 intro pins s σ H Q I h
 exact UnaryOp_ (thn (ha pins s σ H _ I h) fun v s1 ⟨x, H1, I1, r1, q1⟩ => ho pins s1 σ H1 x v Q I1 r1 q1)
theorem opI {f : Value → Value → Sem Value} {C : Int → Int → Prop} {g : Int → Int → Int}
  (rule : ∀ (i j : Int) (t u : Tok) (s : Shared) (Q : Value → Shared → Prop) (E : Value → Shared → Prop), C i j → Q (.int (g i j) s.toks) { s with toks := s.toks + 1 } → wpAny (model X.prog X.w) X.A (f (.int i t) (.int j u)) Q E s) :
  OpR X f (rI C fun i j => .int (g i j)) := by
 intro pins s σ H x y v u Q I rx ry h
 obtain ⟨i, j, rfl, rfl, hc, q⟩ := h
 obtain ⟨t, rfl⟩ := rx
 obtain ⟨t', rfl⟩ := ry
 exact rule i j t t' s _ _ hc ⟨.int (g i j), H, I.tok _, ⟨_, rfl⟩, q⟩
theorem Zay {f : Value → Value → Sem Value} {g : Int → Int → Int}
  (rule : ∀ (i j : Int) (t u : Tok) (s : Shared) (Q : Value → Shared → Prop) (E : Value → Shared → Prop), Q (.int (g i j) s.toks) { s with toks := s.toks + 1 } → wpAny (model X.prog X.w) X.A (f (.int i t) (.int j u)) Q E s) :
  OpR X f (rI0 fun i j => .int (g i j)) := by
 intro pins s σ H x y v u Q I rx ry h
 obtain ⟨i, j, rfl, rfl, q⟩ := h
 obtain ⟨t, rfl⟩ := rx
 obtain ⟨t', rfl⟩ := ry
 exact rule i j t t' s _ _ ⟨.int (g i j), H, I.tok _, ⟨_, rfl⟩, q⟩
theorem Rb {f : Value → Value → Sem Value} {g : Int → Int → Bool}
  (rule : ∀ (i j : Int) (t u : Tok) (s : Shared) (Q : Value → Shared → Prop) (E : Value → Shared → Prop), Q (.bool (g i j)) s → wpAny (model X.prog X.w) X.A (f (.int i t) (.int j u)) Q E s) :
  OpR X f (rI0 fun i j => .bl (g i j)) := by
 intro pins s σ H x y v u Q I rx ry h
 obtain ⟨i, j, rfl, rfl, q⟩ := h
 obtain ⟨t, rfl⟩ := rx
 obtain ⟨t', rfl⟩ := ry
 exact rule i j t t' s _ _ ⟨.bl (g i j), H, I, rfl, q⟩
noncomputable def ZaK (i j : Int) : Prop := 0 < j ∧ j < 1073741824
noncomputable def Zbm (i j : Int) : Prop := j ≠ 0 ∧ j.natAbs < 1073741824
noncomputable def RI (i j : Int) : Prop := 0 ≤ j ∧ j ≤ 1000000 ∧ i.natAbs < 2 ^ 64
noncomputable def Rc (i j : Int) : Prop := (-(2 ^ 64) < i ∧ i < 2 ^ 64) ∨ (-(2 ^ 64) < j ∧ j < 2 ^ 64)
theorem Rc.ok {i j : Int} (h : Rc i j) : IntMulOk i j := by
 rcases h with ⟨h1, h2⟩ | ⟨h1, h2⟩
 ·exact .of_left (intBits_le_64 h1 h2)
 ·exact .of_right (intBits_le_64 h1 h2)
theorem N6 : OpR X (binaryOp .Add) (rI0 fun i j => .int (i + j)) := Zay fun _ _ _ _ _ _ _ q => add_int q
theorem Nk : OpR X (binaryOp .Sub) (rI0 fun i j => .int (i - j)) := Zay fun _ _ _ _ _ _ _ q => sub_int q
theorem N4 : OpR X (binaryOp .Mult) (rI Rc fun i j => .int (i * j)) := opI fun _ _ _ _ _ _ _ hc q => mul_int q hc.ok
theorem Hb : OpR X (binaryOp .FloorDiv) (rI ZaK fun i j => .int (i / j)) := opI fun i j _ _ _ _ _ hc q => by
 have h1 : (0 : Int) < j := hc.1
 have h2 : j < 1073741824 := hc.2
 exact floordiv_int (by omega) (by rw [Int.fdiv_eq_ediv_of_nonneg i (by omega)]; exact q) (.inl (PyProof.noPylong_small (by omega)))
theorem Mv : OpR X (binaryOp .Mod) (rI (fun _ j => 0 < j) fun i j => .int (i % j)) := opI fun i j _ _ _ _ _ hc q => by
 have h1 : (0 : Int) < j := hc
 exact mod_int' (by omega) (by rw [Int.fmod_eq_emod_of_nonneg i (by omega)]; exact q)
theorem O8 : OpR X (binaryOp .Pow) (rI RI fun i j => .int (i ^ j.toNat)) := opI fun _ _ _ _ _ _ _ hc q => pow_int_small hc.1 hc.2.1 hc.2.2 q
theorem unI {f : Value → Sem Value} {g : Int → Int}
  (rule : ∀ (i : Int) (t : Tok) (s : Shared) (Q : Value → Shared → Prop) (E : Value → Shared → Prop), Q (.int (g i) s.toks) { s with toks := s.toks + 1 } → wpAny (model X.prog X.w) X.A (f (.int i t)) Q E s) :
  UnR X f (rU fun i => .int (g i)) := by
 intro pins s σ H x v Q I rx h
 obtain ⟨i, rfl, q⟩ := h
 obtain ⟨t, rfl⟩ := rx
 exact rule i t s _ _ ⟨.int (g i), H, I.tok _, ⟨_, rfl⟩, q⟩
theorem MK : UnR X (unaryOp .USub) (rU fun i => .int (-i)) := unI fun _ _ _ _ _ q => neg_int q
end
noncomputable def Zad : V → V → Bool
 | .non, .non => true | .non, .int _ => true | .int _, .non => true | .non, .bl _ => true | .bl _, .non => true | .non, .str _ => true | .str _, .non => true
 | .int _, .int _ => true | .bl _, .bl _ => true | .str _, .str _ => true | .byt _, .byt _ => true
 | .int _, .str _ => true | .str _, .int _ => true | .bl _, .str _ => true | .str _, .bl _ => true
 | _, _ => false
noncomputable def rEq : R2 := fun x y H Q => Zad x y = true ∧ Q (.bl (decide (x = y))) H
noncomputable def rNe : R2 := fun x y H Q => Zad x y = true ∧ Q (.bl (!decide (x = y))) H
theorem GW {i j : Int} : decide (V.int i = V.int j) = (i == j) := by
 rw [Bool.eq_iff_iff]
 simp
theorem EE {i j : Bool} : decide (V.bl i = V.bl j) = (i == j) := by
 rw [Bool.eq_iff_iff]
 simp
theorem VO {i j : Str} : decide (V.str i = V.str j) = (i == j) := by
 rw [Bool.eq_iff_iff]
 simp
theorem Gu {i j : Array UInt8} : decide (V.byt i = V.byt j) = (i.toList == j.toList) := by
 rw [Bool.eq_iff_iff]
 cases i
 cases j
 simp
section
variable {X : Cx} {a b c : Expr} {ta tb tc : TE} {pos : Pos}
theorem Zx {pins : List (Addr × Obj)} {σ : St} {H : Hp} {s : Shared} {Q : VK} {k k' : Bool} (I : Inv X pins σ H s) (q : Q (.bl k) H) (e : k = k') : EP X pins σ Q (.bool k') s := by
 subst e
 exact ⟨.bl k, H, I, rfl, q⟩
theorem Sr : OpR X (compareOp .Eq) rEq := by
 intro pins s σ H x y v u Q I rx ry h
 obtain ⟨hs, q⟩ := h
 cases x with
 | non =>
  cases rx
  cases y with
  | non => cases ry; exact PySem.EqNone.eq_none_none (Zx I q (by simp))
  | bl j => cases ry; exact PySem.EqNone.eq_none_bool (Zx I q (by simp))
  | int j => obtain ⟨t', rfl⟩ := ry; exact PySem.EqNone.eq_none_int (Zx I q (by simp))
  | str j => obtain ⟨t', rfl⟩ := ry; exact PySem.EqNone.eq_none_str (Zx I q (by simp))
  | _ => exact absurd (show false = true from hs) Bool.false_ne_true
 | bl i =>
  cases rx
  cases y with
  | non => cases ry; exact PySem.EqNone.eq_bool_none (Zx I q (by simp))
  | bl j => cases ry; exact eq_bool (Zx I q EE)
  | str j => obtain ⟨t', rfl⟩ := ry; exact PySem.EqMixed.eq_bool_str (Zx I q (by simp))
  | _ => exact absurd (show false = true from hs) Bool.false_ne_true
 | int i =>
  obtain ⟨t, rfl⟩ := rx
  cases y with
  | non => cases ry; exact PySem.EqNone.eq_int_none (Zx I q (by simp))
  | int j => obtain ⟨t', rfl⟩ := ry; exact eq_int (Zx I q GW)
  | str j => obtain ⟨t', rfl⟩ := ry; exact PySem.EqMixed.eq_int_str (Zx I q (by simp))
  | _ => exact absurd (show false = true from hs) Bool.false_ne_true
 | str i =>
  obtain ⟨t, rfl⟩ := rx
  cases y with
  | non => cases ry; exact PySem.EqNone.eq_str_none (Zx I q (by simp))
  | bl j => cases ry; exact PySem.EqMixed.eq_str_bool (Zx I q (by simp))
  | int j => obtain ⟨t', rfl⟩ := ry; exact PySem.EqMixed.eq_str_int (Zx I q (by simp))
  | str j => obtain ⟨t', rfl⟩ := ry; exact eq_str (Zx I q VO)
  | _ => exact absurd (show false = true from hs) Bool.false_ne_true
 | byt i =>
  obtain ⟨t, rfl⟩ := rx
  cases y with
  | byt j => obtain ⟨t', rfl⟩ := ry; exact PySem.W.eq_bytes (Zx I q Gu)
  | _ => exact absurd (show false = true from hs) Bool.false_ne_true
 | _ => cases y <;> exact absurd (show false = true from hs) Bool.false_ne_true
theorem P0 : OpR X (compareOp .NotEq) rNe := by
 intro pins s σ H x y v u Q I rx ry h
 obtain ⟨hs, q⟩ := h
 cases x with
 | non =>
  cases rx
  cases y with
  | non => cases ry; exact PySem.EqNone.ne_none_none (Zx I q (by simp))
  | bl j => cases ry; exact PySem.EqNone.ne_none_bool (Zx I q (by simp))
  | int j => obtain ⟨t', rfl⟩ := ry; exact PySem.EqNone.ne_none_int (Zx I q (by simp))
  | str j => obtain ⟨t', rfl⟩ := ry; exact PySem.EqNone.ne_none_str (Zx I q (by simp))
  | _ => exact absurd (show false = true from hs) Bool.false_ne_true
 | bl i =>
  cases rx
  cases y with
  | non => cases ry; exact PySem.EqNone.ne_bool_none (Zx I q (by simp))
  | bl j => cases ry; exact ne_bool (Zx I q (congrArg not EE))
  | str j => obtain ⟨t', rfl⟩ := ry; exact PySem.EqMixed.ne_bool_str (Zx I q (by simp))
  | _ => exact absurd (show false = true from hs) Bool.false_ne_true
 | int i =>
  obtain ⟨t, rfl⟩ := rx
  cases y with
  | non => cases ry; exact PySem.EqNone.ne_int_none (Zx I q (by simp))
  | int j => obtain ⟨t', rfl⟩ := ry; exact ne_int (Zx I q (congrArg not GW))
  | str j => obtain ⟨t', rfl⟩ := ry; exact PySem.EqMixed.ne_int_str (Zx I q (by simp))
  | _ => exact absurd (show false = true from hs) Bool.false_ne_true
 | str i =>
  obtain ⟨t, rfl⟩ := rx
  cases y with
  | non => cases ry; exact PySem.EqNone.ne_str_none (Zx I q (by simp))
  | bl j => cases ry; exact PySem.EqMixed.ne_str_bool (Zx I q (by simp))
  | int j => obtain ⟨t', rfl⟩ := ry; exact PySem.EqMixed.ne_str_int (Zx I q (by simp))
  | str j => obtain ⟨t', rfl⟩ := ry; exact ne_str (Zx I q (congrArg not VO))
  | _ => exact absurd (show false = true from hs) Bool.false_ne_true
 | byt i =>
  obtain ⟨t, rfl⟩ := rx
  cases y with
  | byt j => obtain ⟨t', rfl⟩ := ry; exact PySem.W.ne_bytes (Zx I q (congrArg not Gu))
  | _ => exact absurd (show false = true from hs) Bool.false_ne_true
 | _ => cases y <;> exact absurd (show false = true from hs) Bool.false_ne_true
theorem SA : OpR X (compareOp .Lt) (rI0 fun i j => .bl (decide (i < j))) := Rb fun _ _ _ _ _ _ _ q => lt_int q
theorem S2 : OpR X (compareOp .LtE) (rI0 fun i j => .bl (decide (i ≤ j))) := Rb fun _ _ _ _ _ _ _ q => le_int q
theorem RM : OpR X (compareOp .Gt) (rI0 fun i j => .bl (decide (j < i))) := Rb fun _ _ _ _ _ _ _ q => gt_int q
theorem Rz : OpR X (compareOp .GtE) (rI0 fun i j => .bl (decide (j ≤ i))) := Rb fun _ _ _ _ _ _ _ q => ge_int q
noncomputable def isObj : HO → Bool
 | .lst _ => true
 | .ins _ _ _ => true
 | _ => false
theorem OpR.or {f : Value → Value → Sem Value} {r r' : R2} (h : OpR X f r) (h' : OpR X f r') : OpR X f (fun x y H Q => r x y H Q ∨ r' x y H Q) := by
 intro pins s σ H x y v u Q I rx ry q
 rcases q with q | q
 ·exact h pins s σ H x y v u Q I rx ry q
 ·exact h' pins s σ H x y v u Q I rx ry q
theorem Fe (b : Expr) {op : CmpOp} (h : op ≠ .In := by decide) (h2 : op ≠ .NotIn := by decide) : behindInMarks op b = false := by
 have e1 : (op == CmpOp.In) = false := by cases op <;> first | rfl | exact absurd rfl h
 have e2 : (op == CmpOp.NotIn) = false := by cases op <;> first | rfl | exact absurd rfl h2
 cases b <;> simp [behindInMarks, e1, e2]
theorem Hy {op : CmpOp} {r : R2} (ho : OpR X (compareOp op) r) (ha : PE X a ta) (hb : PE X b tb) (hm : behindInMarks op b = false) : PE X (.Compare a [op] [b] pos) (tOp r ta tb) := by
 intro pins s σ H Q I h
 exact wpAny_Compare1 (RQ ha hb I h fun v u s2 x y H2 I2 rx ry q => ho pins s2 σ H2 x y v u Q I2 rx ry q) hm
noncomputable def Nn (t : TE) : TT := fun σ H Q => t σ H fun x H' => ∃ k, x = .bl k ∧ Q k H'
theorem Ly {op : CmpOp} {r : R2} (ho : OpR X (compareOp op) r) (ha : PE X a ta) (hb : PE X b tb) (hm : behindInMarks op b = false) : PT X (.Compare a [op] [b] pos) (Nn (tOp r ta tb)) := by
 intro pins s σ H Q I h
 refine wpAny_isTrue_Compare1 (thn (ha pins s σ H _ I h) fun v s1 ⟨x, H1, I1, r1, q1⟩ => thn (hb pins s1 σ H1 _ I1 q1) fun u s2 ⟨y, H2, I2, r2, q2⟩ =>
  thn (ho pins s2 σ H2 x y v u _ I2 r1 r2 q2) fun c s3 ⟨z, H3, I3, r3, k, e, q3⟩ => ?_) hm
 subst e
 cases r3
 exact wpAny_truthy_bool ⟨H3, I3, q3⟩
noncomputable def U4 (r r' : R2) (ta tb tc : TE) : TE := fun σ H Q => ta σ H fun x H1 => tb σ H1 fun y H2 => r x y H2 fun z H3 => ∃ k, z = .bl k ∧
 (if k = true then tc σ H3 fun w' H4 => r' y w' H4 Q else Q (.bl false) H3)
theorem CH {op op' : CmpOp} {r r' : R2} (ho : OpR X (compareOp op) r) (ho' : OpR X (compareOp op') r') (ha : PE X a ta) (hb : PE X b tb) (hc : PE X c tc)
  (hm : lastMarks [op, op'] [b, c] = false := by with_unfolding_all rfl) : PE X (.Compare a [op, op'] [b, c] pos) (U4 r r' ta tb tc) := by
 intro pins s σ H Q I h
 refine Compare_chain (thn (ha pins s σ H _ I h) fun v s1 ⟨x, H1, I1, r1, q1⟩ => chain_link (thn (hb pins s1 σ H1 _ I1 q1) fun u s2 ⟨y, H2, I2, r2, q2⟩ =>
  thn (ho pins s2 σ H2 x y v u _ I2 r1 r2 q2) fun d s3 ⟨z, H3, I3, r3, k, e, q3⟩ => ?_)) hm
 subst e
 cases r3
 refine wpAny_truthy_bool ?_
 cases k with
 | false => exact ite_ff ⟨.bl false, H3, I3, rfl, q3⟩
 | true => exact ite_tt (chain_last (thn (hc pins s3 σ H3 _ I3 q3) fun w' s4 ⟨z', H4, I4, r4, q4⟩ => ho' pins s4 σ H4 y z' u w' Q I4 r2 r4 q4))
theorem D8 {op op' : CmpOp} {r r' : R2} (ho : OpR X (compareOp op) r) (ho' : OpR X (compareOp op') r') (ha : PE X a ta) (hb : PE X b tb) (hc : PE X c tc)
  (hm : lastMarks [op, op'] [b, c] = false := by with_unfolding_all rfl) : PT X (.Compare a [op, op'] [b, c] pos) (Nn (U4 r r' ta tb tc)) := by
 intro pins s σ H Q I h
 refine isTrue_chain (thn (ha pins s σ H _ I h) fun v s1 ⟨x, H1, I1, r1, q1⟩ => test_link (thn (hb pins s1 σ H1 _ I1 q1) fun u s2 ⟨y, H2, I2, r2, q2⟩ =>
  thn (ho pins s2 σ H2 x y v u _ I2 r1 r2 q2) fun d s3 ⟨z, H3, I3, r3, k, e, q3⟩ => ?_)) hm
 subst e
 cases r3
 refine wpAny_truthy_bool ?_
 cases k with
 | false =>
  obtain ⟨k', e', q'⟩ := q3
  cases e'
  exact ite_ff ⟨H3, I3, q'⟩
 | true =>
  refine ite_tt (test_last (thn (hc pins s3 σ H3 _ I3 q3) fun w' s4 ⟨z', H4, I4, r4, q4⟩ => thn (ho' pins s4 σ H4 y z' u w' _ I4 r2 r4 q4) fun d' s5 ⟨z2, H5, I5, r5, k2, e2, q5⟩ => ?_))
  subst e2
  cases r5
  exact wpAny_truthy_bool ⟨H5, I5, q5⟩
noncomputable def Zc0 (K : PySem.W.Frag) (x : V) (H : Hp) (k : Bool) : Prop :=
 match x with
 | .non => k = false
 | .bl b => k = b
 | .int i => k = (i != 0)
 | .str y => y.length ≤ sizeLine ∧ k = ((y.length : Int) != 0)
 | .byt y => y.size ≤ sizeLine ∧ k = ((y.size : Int) != 0)
 | .ref p => (∃ xs, SqL K H p xs ∧ k = !xs.isEmpty) ∨ (∃ xs, SqT K H p xs ∧ k = !xs.isEmpty) ∨ ∃ kvs, H p = some (.dK kvs) ∧ k = !kvs.isEmpty
 | _ => False
theorem V8 : (sizeLine : Nat) < 2 ^ 63 := by rw [sizeLine_eq]; decide
noncomputable def Rk (b : Expr) : Prop := ∀ o i, subscripted b false o i = operate [o, i] (getItem o i)
theorem vals1 {x : V} {us : List Value} (r : Vals [x] us) : ∃ u, us = [u] ∧ RelV x u := by
 cases r with
 | cons r1 r2 => cases r2; exact ⟨_, rfl, r1⟩
theorem vals2 {x y : V} {us : List Value} (r : Vals [x, y] us) : ∃ u w', us = [u, w'] ∧ RelV x u ∧ RelV y w' := by
 cases r with
 | cons r1 r2 =>
  cases r2 with
  | cons r3 r4 => cases r4; exact ⟨_, _, rfl, r1, r3⟩
theorem Dp : QA X (.builtin "abs") (fun xs H Q => ∃ i, xs = [.int i] ∧ Q (.int (if i < 0 then -i else i)) H) := by
 intro pins s σ H xs us Q I r h
 obtain ⟨i, rfl, q⟩ := h
 obtain ⟨u, rfl, t, rfl⟩ := vals1 r
 exact call_abs_int fun u tk => ⟨.int (if i < 0 then -i else i), H, I.tok _, ⟨_, rfl⟩, q⟩
theorem G6 (hc : X.calm = true) : QA X (.builtin "max") (fun xs H Q => ∃ i j, xs = [.int i, .int j] ∧ Q (.int (if j > i then j else i)) H) := by
 intro pins s σ H xs us Q I r h
 obtain ⟨i, j, rfl, q⟩ := h
 obtain ⟨u, w', rfl, ⟨t, rfl⟩, ⟨t', rfl⟩⟩ := vals2 r
 refine max_two_ints (I.ok.hd hc) fun h' tk k => ⟨_, H, I.kept k, ?_, q⟩
 by_cases hj : j > i
 ·rw [if_pos hj, if_pos hj]; exact ⟨_, rfl⟩
 ·rw [if_neg hj, if_neg hj]; exact ⟨_, rfl⟩
theorem Xz : QA X (.type "str") (fun xs H Q => ∃ i, xs = [.int i] ∧ i.natAbs.log2 < 1920 ∧ Q (.str (toString i)) H) := by
 intro pins s σ H xs us Q I r h
 obtain ⟨i, rfl, hz, q⟩ := h
 obtain ⟨u, rfl, t, rfl⟩ := vals1 r
 exact PySem.P.str_of_int hz ⟨.str _, H, I.tok _, ⟨_, rfl⟩, q⟩
noncomputable def ZcQ (K : PySem.W.Frag) (x : V) (H : Hp) (n : Nat) : Prop :=
 match x with
 | .str y => y.length ≤ sizeLine ∧ n = y.length
 | .byt y => y.size ≤ sizeLine ∧ n = y.size
 | .ref p => (∃ xs, SqL K H p xs ∧ n = xs.length) ∨ ∃ xs, SqT K H p xs ∧ n = xs.length
 | _ => False
end
end L2
namespace L2
open PySem PySem.Spec PyProof.Rows
structure Zco (h : Heap) (x dx C : Addr) (mA : Str → Option Value) : Prop where
 obj : h.get? x = some (PySem.W.instObj C dx)
 ns : h.Ns1 dx mA
 ne : dx ≠ x
section
variable {prog : Program} {w : World} {A : Around} {E : Value → Shared → Prop} {s : Shared} {K : PySem.W.Frag} {x dx C f : Addr} {mA : Str → Option Value} {name : Str} {v : Value}
end
noncomputable def S8 (f : Str) (v : V) : List (Str × V) → List (Str × V)
 | [] => [(f, v)]
 | (g, x) :: r => if g = f then (g, v) :: r else (g, x) :: S8 f v r
section
variable {P : Program} {w : World} {H H' : Hp} {h h' : Heap} {a C dx : Addr} {fs fs' : List (Str × V)}
end
structure Cls (K : PySem.W.Frag) (C : Addr) : Prop where
 pg : PySem.W.plainGet K C Str.empty = true
 hd : PySem.W.hasDictIn K C = true
 po : PySem.W.plainOver K C = true
 sa : PySem.W.findIn K (.ref C) "__setattr__" = some (some (.builtin "object.__setattr__"))
theorem Cls.get {K : PySem.W.Frag} {C : Addr} (c : Cls K C) (f : Str) : PySem.W.plainGet K C f = true := c.pg
noncomputable def BA (K : PySem.W.Frag) (C : Addr) (f : Str) : Prop := PySem.W.findIn K (.ref C) f = some none
structure Con (K : PySem.W.Frag) (C : Addr) (f : Str) (v : V) (u : Value) : Prop where
 at_ : PySem.W.findIn K (.ref C) f = some (some u)
 rel : RelV v u
 get : PySem.W.specialIn K u "__get__" = some none
 cp : PySem.W.copiedNames.contains f = false
structure Meth (K : PySem.W.Frag) (C : Addr) (m : Str) (f : Addr) : Prop where
 at_ : PySem.W.findIn K (.ref C) m = some (some (.ref f))
 fn : PySem.W.isFn K (.ref f) = true
 kp : PySem.W.keepIn K (.ref f) = true
section
variable {X : Cx} {pins : List (Addr × Obj)} {σ : St} {H : Hp} {s : Shared} {a C dx : Addr} {fs : List (Str × V)} {f : Str} {v : V} {A : Around} {E : Value → Shared → Prop}
end
noncomputable def Zcu (K : PySem.W.Frag) (ta : TE) (f : Str) : TE := fun σ H Q => ta σ H fun x H1 => ∃ a C dx fs v, x = .ref a ∧ H1 a = some (.ins C dx fs) ∧ Cls K C ∧ BA K C f ∧ fs.lookup f = some v ∧ Q v H1
noncomputable def Zcp (K : PySem.W.Frag) (ta : TE) (f : Str) : TE := fun σ H Q => ta σ H fun x H1 => ∃ a C dx fs v u, x = .ref a ∧ H1 a = some (.ins C dx fs) ∧ Cls K C ∧ Con K C f v u ∧ fs.lookup f = none ∧ Q v H1
noncomputable def ZcB (K : PySem.W.Frag) (ta tv : TE) (f : Str) : TS := fun D σ H => tv σ H fun y H1 => ta σ H1 fun x H2 => ∃ a C dx fs, x = .ref a ∧ H2 a = some (.ins C dx fs) ∧ Cls K C ∧ BA K C f ∧ fs.length < 1000 ∧
 D.nx σ (upd H2 a (.ins C dx (S8 f y fs)))
noncomputable def Zcm (X : Cx) (op : Operator) (rd : V → V → Hp → VK → Prop) : Prop :=
 ∀ (pins : List (Addr × Obj)) (s : Shared) (σ : St) (H : Hp) (x y : V) (u v : Value) (Q : VK), Inv X pins σ H s → RelV x u → RelV y v → rd x y H Q → wpAny (model X.prog X.w) X.A (inplaceOp op u v) (EP X pins σ Q) X.xe s
noncomputable def RH (K : PySem.W.Frag) (ta tv : TE) (rd : V → V → Hp → VK → Prop) (f : Str) : TS := fun D σ H => ta σ H fun x H1 => ∃ a C dx fs v, x = .ref a ∧ H1 a = some (.ins C dx fs) ∧ Cls K C ∧ BA K C f ∧ fs.lookup f = some v ∧
 tv σ H1 fun y H2 => rd v y H2 fun z H3 => ∃ dx' fs', H3 a = some (.ins C dx' fs') ∧ fs'.length < 1000 ∧ D.nx σ (upd H3 a (.ins C dx' (S8 f z fs')))
section
variable {X : Cx} {o e value : Expr} {f : Str} {pos pos' tpos : Pos} {ta tv : TE}
noncomputable def Zck : V → V → Hp → VK → Prop := fun x y H Q => ∃ i j, x = .int i ∧ y = .int j ∧ Q (.int (i + j)) H
noncomputable def Zcv : V → V → Hp → VK → Prop := fun x y H Q => ∃ i j, x = .int i ∧ y = .int j ∧ Q (.int (i - j)) H
end
section
variable {X : Cx} {pins : List (Addr × Obj)} {σ : St} {H : Hp} {s : Shared} {A : Around} {E : Value → Shared → Prop} {Q : Value → Shared → Prop} {c : Value} {b : Bool}
inductive Gq (K : PySem.W.Frag) (H : Hp) : V → Value → Prop where
 | non : Gq K H .non (.type "NoneType")
 | bl (x : Bool) : Gq K H (.bl x) (.type "bool")
 | int (i : Int) : Gq K H (.int i) (.type "int")
 | str (x : Str) : Gq K H (.str x) (.type "str")
 | flt (x : UInt64) : Gq K H (.flt x) (.type "float")
 | lst {a : Addr} {xs : List V} (e : H a = some (.lst xs)) : Gq K H (.ref a) (.type "list")
 | frz {a : Addr} {o : Obj} {xs : List V} (e : H a = some (.frz o (.lst xs))) : Gq K H (.ref a) (.type "list")
 | tup {a : Addr} {xs : List V} (e : H a = some (.tup xs)) : Gq K H (.ref a) (.type "tuple")
 | dK {a : Addr} {kvs : List (Key × V)} (e : H a = some (.dK kvs)) : Gq K H (.ref a) (.type "dict")
 | dT {a : Addr} {kvs : List (List Key × V)} (e : H a = some (.dT kvs)) : Gq K H (.ref a) (.type "dict")
 | ins {a C dx : Addr} {fs : List (Str × V)} (e : H a = some (.ins C dx fs)) (cl : Cls K C) (ha : PySem.W.findIn K (.ref C) "__class__" = some (some (.builtin "object.__class__")))
   (hn : PySem.W.specialIn K (.builtin "object.__class__") "__get__" = some (some (.builtin "getset_descriptor.__get__"))) (htk : PySem.W.takesIn K (.builtin "object.__class__") = some true)
   (hm : PySem.W.mroIn K C (.type "object") = some true) : Gq K H (.ref a) (.ref C)
end
end L2
namespace L2
open PySem PySem.Spec PyProof.Rows
structure J0 (k : Nat) (A : Around) : Prop where
 hd : A.handled = none
 dp : A.depth + 3 * k + 5 < recursionLimit
 un : A.units + 16 * k + 200 < cLine
 gd : A.guards = some []
theorem J0.mono {j k : Nat} {A : Around} (r : J0 k A) (h : j ≤ k) : J0 j A := ⟨r.hd, by have := r.dp; omega, by have := r.un; omega, r.gd⟩
theorem J0.deeper {k : Nat} {A : Around} (r : J0 (k + 1) A) (env : Env) : J0 k (A.deeper env) :=
 ⟨r.hd, by have := r.dp; show A.depth + 1 + 3 * k + 5 < _; omega, by have := r.un; show A.units + 3 + 16 * k + 200 < _; omega, r.gd⟩
theorem J0.depth {k : Nat} {A : Around} (r : J0 k A) : A.depth < recursionLimit := by have := r.dp; omega
theorem J0.units {k : Nat} {A : Around} (r : J0 k A) : A.units + 64 < cLine := by have := r.un; omega
noncomputable def Zbf : TA := fun _ H Q => Q [] H
noncomputable def Sk (ta : TE) (tr : TA) : TA := fun σ H Q => ta σ H fun x H1 => tr σ H1 fun xs H2 => Q (x :: xs) H2
section
variable {X : Cx} {e : Expr} {es : List Expr} {te : TE} {t : TA} {pos : Pos}
theorem Ka : PA X [] Zbf := fun _ _ _ _ H Q I h => Calls.spliced_nil ⟨[], H, I, .nil, h⟩
theorem Jq (ha : PE X e te) (hr : PA X es t) (hs : starEach (e :: es) X.env = (false, eval e X.env) :: starEach es X.env := by rfl) : PA X (e :: es) (Sk te t) := by
 intro pos pins s σ H Q I h
 rw [hs]
 show wpAny _ _ (spliced ((false, eval e X.env) :: backTo pos (starEach es X.env))) _ _ s
 refine Calls.spliced_cons (thn (ha pins s σ H _ I h) fun u s1 ⟨x, H1, I1, r1, q1⟩ => ?_)
 exact thn (hr pos pins s1 σ H1 _ I1 q1) fun us s2 ⟨xs, H2, I2, r2, q2⟩ => ⟨x :: xs, H2, I2, .cons r1 r2, q2⟩
noncomputable def Zbc (t : TA) : TE := fun σ H Q => t σ H fun xs H1 => xs.length ≤ sizeLine ∧ ∀ p, H1 p = none → Q (.ref p) (upd H1 p (.tup xs))
noncomputable def Zb2 (t : TA) : TE := fun σ H Q => t σ H fun xs H1 => xs.length ≤ sizeLine ∧ ∀ p, H1 p = none → Q (.ref p) (upd H1 p (.lst xs))
theorem EZ {x1} (h : PA X es t) : PE X (.Tuple es x1 pos) (Zbc t) := by
 intro pins s σ H Q I hq
 refine wpAny_Tuple_spliced (thn (h pos pins s σ H _ I hq) fun us s1 ⟨xs, H1, I1, r, z, q⟩ => ⟨by rw [← r.length]; exact z, ?_⟩)
 have hf : H1 s1.heap.objs.size = none := I1.hok.fresh (Nat.le_refl _)
 refine ⟨.ref s1.heap.objs.size, upd H1 s1.heap.objs.size (.tup xs), I1.laid (t' := s1.toks) (fun b u e => Heap.get?_push_of_some _ e) (Nat.le_refl _) ?_, rfl, q _ hf⟩
 exact ⟨z, us, r, ⟨_, Heap.get?_push_size _ rfl, rfl, _, rfl⟩⟩
theorem Wz (h : PA X es t) : PE X (.List es pos) (Zb2 t) := by
 intro pins s σ H Q I hq
 refine wpAny_List_spliced (thn (h pos pins s σ H _ I hq) fun us s1 ⟨xs, H1, I1, r, z, q⟩ => ⟨by rw [← r.length]; exact z, ?_⟩)
 have hf : H1 s1.heap.objs.size = none := I1.hok.fresh (Nat.le_refl _)
 refine ⟨.ref s1.heap.objs.size, upd H1 s1.heap.objs.size (.lst xs), I1.laid (t' := s1.toks) (fun b u e => Heap.get?_push_of_some _ e) (Nat.le_refl _) ?_, rfl, q _ hf⟩
 exact ⟨z, us, 0, r, Heap.get?_push_size _ rfl⟩
end
noncomputable abbrev Sp := List V → Hp → VK → XK → Prop
noncomputable abbrev CXT := List Env → Hp → Shared → XK → Value → Shared → Prop
structure Rw (P : Program) (w : World) (K : PySem.W.Frag) (mg : Str → Option Value) (base : Heap) (A : Around) (outer : List Env) (s : Shared) (H : Hp) : Prop where
 frames : A.frames = some outer
 mod : Mod K mg base
 bs : ∀ b o, base.get? b = some o → s.heap.get? b = some o ∧ H b = none
 bsz : base.objs.size ≤ s.heap.objs.size
 GF : s.heap.FunFrames base outer
 frf : ∀ b ∈ frs outer, H b = none
 hok : HOk P w H s.heap
 bare : AllBare s.gens
noncomputable def CE (outer : List Env) (P : Program) (w : World) (H : Hp) (s : Shared) (Q : VK) (u : Value) (s' : Shared) : Prop :=
 ∃ v H', s'.os = s.os ∧ AllBare s'.gens ∧ Un (frs outer) [] H H' s.heap s'.heap ∧ HOk P w H' s'.heap ∧ RelV v u ∧ Q v H'
noncomputable def CR (CX : CXT) (outer : List Env) (P : Program) (w : World) (H : Hp) (s : Shared) (Q : VK) (E : XK) (r : Result) (s' : Shared) : Prop :=
 match r with
 | .ok (.ret u) => CE outer P w H s Q u s'
 | .ok _ => False
 | .error e => CX outer H s E e s'
structure ZX (P : Program) (w : World) (K : PySem.W.Frag) (mg : Str → Option Value) (base : Heap) (CX : CXT) (k : Nat) (f : Addr) (fd : FuncData) (ps : List Str) (sp : Sp) : Prop where
 len : ∀ vs H Q E, sp vs H Q E → vs.length = ps.length
 run : ∀ (A : Around) (outer : List Env) (s : Shared) (H : Hp) (args : Args) (us : List Value) (vs : List V) (Q : VK) (E : XK), J0 k A → Rw P w K mg base A outer s H → BindsTo s fd args (ps.zip us) → Vals vs us → sp vs H Q E →
  codeAny (model P w) A (.call (.ref f) args) (CR CX outer P w H s Q E) s
theorem ZX.imp {P : Program} {w : World} {K : PySem.W.Frag} {mg : Str → Option Value} {base : Heap} {CX : CXT} {k : Nat} {f : Addr} {fd : FuncData} {ps : List Str} {sp sp' : Sp} (F : ZX P w K mg base CX k f fd ps sp)
  (h : ∀ vs H Q E, sp' vs H Q E → sp vs H Q E) : ZX P w K mg base CX k f fd ps sp' :=
 ⟨fun vs H Q E q => F.len vs H Q E (h _ _ _ _ q), fun A outer s H args us vs Q E hr he hb hv hs => F.run A outer s H args us vs Q E hr he hb hv (h _ _ _ _ hs)⟩
section
variable {X : Cx} {pins : List (Addr × Obj)} {σ : St} {H : Hp} {s s' : Shared}
theorem Inv.ZbR (I : Inv X pins σ H s) : Rw X.prog X.w X.K X.mg X.base X.A X.stack s H :=
 ⟨I.ok.frames, I.ok.mod, I.bs, Nat.le_trans I.ok.bsz I.sz, I.stack, I.G4, I.hok, I.bare⟩
theorem Inv.after {Q : VK} {u : Value} (I : Inv X pins σ H s) (h : CE X.stack X.prog X.w H s Q u s') : EP X pins σ Q u s' := by
 obtain ⟨v, H', os, bare, un, hok, r, q⟩ := h
 obtain ⟨hh, g, d, t, os'⟩ := s'
 obtain rfl : os' = s.os := os
 exact ⟨v, H', I.call (h' := hh) (g' := g) (d' := d) (t' := t) (ch := []) un hok bare (fun b z => absurd z (by simp)), r, q⟩
end
noncomputable def RV (sp : Sp) (dvs : List V) (E : XK) (t : TA) : TE := fun σ H Q => t σ H fun vs H1 => sp (vs ++ dvs) H1 Q E
noncomputable def Zbb (C : Addr) (m : Str) (sp : Sp) (dvs : List V) (E : XK) (ta : TE) (t : TA) : TE := fun σ H Q => ta σ H fun x H1 => ∃ a dx fs, x = .ref a ∧ H1 a = some (.ins C dx fs) ∧ fs.lookup m = none ∧
 t σ H1 fun vs H2 => sp (x :: (vs ++ dvs)) H2 Q E
noncomputable def Za4 (C : Addr) (sp : Sp) (dvs : List V) (E : XK) (t : TA) : TE := fun σ H Q => t σ H fun vs H1 => ∀ x dx, H1 x = none → H1 dx = none → dx ≠ x →
 sp (.ref x :: (vs ++ dvs)) (upd (upd H1 dx (.own x)) x (.ins C dx [])) (fun v H2 => v = .non ∧ Q (.ref x) H2) E
noncomputable def Binds (K : PySem.W.Frag) (fd : FuncData) (ps : List Str) (ds : List Value) : Prop :=
 ∀ (s : Shared) (us : List Value), K.In s.heap → (us ++ ds).length = ps.length → BindsTo s fd ⟨us, []⟩ (ps.zip (us ++ ds))
theorem Binds.all {K : PySem.W.Frag} {fd : FuncData} {ps : List Str} (h : ∀ us : List Value, us.length = ps.length → bindArgs fd ⟨us, []⟩ = pure (ps.zip us)) : Binds K fd ps [] := fun s us _ hl => by
 rw [List.append_nil] at hl ⊢
 exact .of_eq (h us hl)
noncomputable def Passes (CX : CXT) (X : Cx) (E : XK) : Prop := ∀ (pins : List (Addr × Obj)) (σ : St) (H : Hp) (s : Shared) (e : Value) (s' : Shared), Inv X pins σ H s → CX X.stack H s E e s' → X.xe e s'
section
variable {X : Cx} {CX : CXT} {k : Nat} {f C : Addr} {fd : FuncData} {ps : List Str} {sp : Sp} {dvs : List V} {ds : List Value} {E : XK} {x m : Str} {p pos apos : Pos} {e o : Expr} {es : List Expr} {ta : TE} {t : TA}
theorem Mc {pins : List (Addr × Obj)} {σ : St} {H : Hp} {s : Shared} {Q : VK} {us : List Value} {vs : List V} (F : ZX X.prog X.w X.K X.mg X.base CX k f fd ps sp) (hr : J0 k X.A) (hb : Binds X.K fd ps ds) (hd : Vals dvs ds) (hx : Passes CX X E)
  (I : Inv X pins σ H s) (r : Vals vs us) (h : sp (vs ++ dvs) H Q E) : wpAny (model X.prog X.w) X.A (call (.ref f) us) (EP X pins σ Q) X.xe s := by
 have r2 : Vals (vs ++ dvs) (us ++ ds) := r.append hd
 have hl : (us ++ ds).length = ps.length := by rw [← r2.length]; exact F.len _ _ _ _ h
 refine wpAny_call (codeAny_mono (F.run X.A X.stack s H ⟨us, []⟩ (us ++ ds) (vs ++ dvs) Q E hr I.ZbR (hb s us I.kIn hl) r2 h) fun r s' hq => ?_)
 cases r with
 | error e => exact hx pins σ H s e s' I hq
 | ok fl =>
  cases fl with
  | ret u => exact I.after hq
  | next => exact False.elim hq
  | brk => exact False.elim hq
  | cont => exact False.elim hq
theorem LU (F : ZX X.prog X.w X.K X.mg X.base CX k f fd ps sp) (hr : J0 k X.A) (hg : Gl X x) (hm : X.mg x = some (.ref f)) (hk : PySem.W.keepIn X.K (.ref f) = true) (hb : Binds X.K fd ps ds) (hd : Vals dvs ds) (hx : Passes CX X E)
  (ha : PA X (e :: es) t) (hdb : (x == ("__debug__" : Str)) = false := by decide) (he : starEach (e :: es) X.env = (false, eval e X.env) :: starEach es X.env := by rfl) (hpl : (backTo pos (starEach es X.env)).any (·.1) = false := by rfl) :
  PE X (.Call (.Name x p) (e :: es) [] pos) (RV sp dvs E t) := by
 intro pins s σ H Q I h
 refine wpAny_Call_Name_kw (UR I hg hm ?_ hdb)
 refine PySem.W.callWith_K (h₀ := X.base) I.ok.mod.kin hk (thn (ha pos pins s σ H _ I h) fun us s1 ⟨vs, H1, I1, r, q⟩ => ⟨I1.kIn, ?_⟩) he hpl
 exact Mc F hr hb hd hx I1 r q
structure Mk (K : PySem.W.Frag) (C f : Addr) : Prop where
 makes : PySem.W.makesIn K C = true
 init : PySem.W.findIn K (.ref C) "__init__" = some (some (.ref f))
 fn : PySem.W.isFn K (.ref f) = true
 kp : PySem.W.keepIn K (.ref C) = true
end
noncomputable def PK (X : Cx) (kws : List Keyword) (t : TA) : Prop :=
 ∀ (pos : Pos) (pins : List (Addr × Obj)) (s : Shared) (σ : St) (H : Hp) (Q : List V → Hp → Prop), Inv X pins σ H s → t σ H Q → wpAny (model X.prog X.w) X.A (evalAll ((backToKw pos (keywordEach kws X.env)).map (·.2))) (AP X pins σ Q) X.xe s
section
variable {X : Cx} {CX : CXT} {k : Nat} {f C : Addr} {fd : FuncData} {ps ks : List Str} {sp : Sp} {E : XK} {x m : Str} {p pos apos kpos : Pos} {e o : Expr} {es : List Expr} {kws : List Keyword} {te ta : TE} {t tk : TA} {nm : Option Str}
structure T5 (K : PySem.W.Frag) (fd : FuncData) (ps ks : List Str) (g : List Value → List Value → List Value) (gV : List V → List V → List V) : Prop where
 to : ∀ (s : Shared) (us ws : List Value), K.In s.heap → (g us ws).length = ps.length → BindsTo s fd ⟨us, ks.zip ws⟩ (ps.zip (g us ws))
 rel : ∀ {vs : List V} {us : List Value} {zs : List V} {ws : List Value}, Vals vs us → Vals zs ws → Vals (gV vs zs) (g us ws)
noncomputable def TQ (sp : Sp) (gV : List V → List V → List V) (E : XK) (t tk : TA) : TE := fun σ H Q => t σ H fun vs H1 => tk σ H1 fun zs H2 => sp (gV vs zs) H2 Q E
variable {g : List Value → List Value → List Value} {gV : List V → List V → List V}
end
structure Zt (N P : List Str) (sc : Scope) : Prop where
 kind : sc.kind = .function
 co : sc.isCoroutine = false
 gen : sc.isGenerator = false
 nd : N.Nodup
 pre : N.take P.length = P
 par : ∀ x ∈ P, sc.names.lookup x = some .local ∨ sc.names.lookup x = some .cell
 nofree : ∀ y ∈ sc.names, y.2 ≠ .free
theorem X0 {kindOf : Str → Option NameKind} {x : Str} : ∀ {binds : List (Str × Value)} {m : Str → Option Value}, (∀ v, (x, v) ∉ binds) → bindL kindOf binds m x = m x
 | [], _, _ => rfl
 | (n, v) :: r, m, h => by
  unfold bindL
  rw [X0 fun w hw => h w (List.mem_cons_of_mem _ hw)]
  split
  ·have : x ≠ n := by rintro rfl; exact h v List.mem_cons_self
   simp [this]
  ·rfl
theorem X2 {kindOf : Str → Option NameKind} {x : Str} : ∀ {binds : List (Str × Value)} {m : Str → Option Value}, (∀ v, (x, v) ∉ binds) → bindC kindOf binds m x = m x
 | [], _, _ => rfl
 | (n, v) :: r, m, h => by
  unfold bindC
  rw [X2 fun w hw => h w (List.mem_cons_of_mem _ hw)]
  split
  ·rfl
  ·have : x ≠ n := by rintro rfl; exact h v List.mem_cons_self
   simp [this]
theorem Xi {kindOf : Str → Option NameKind} {x : Str} {v : Value} : ∀ {P : List Str} {vs : List Value} {i : Nat} {m : Str → Option Value}, P.Nodup → P[i]? = some x → vs[i]? = some v → kindOf x = some .local →
  bindL kindOf (P.zip vs) m x = some v
 | [], _, _, _, _, h, _, _ => by simp at h
 | _ :: _, [], _, _, _, _, h, _ => by simp at h
 | p :: P, w :: vs, 0, m, nd, h1, h2, hk => by
  simp at h1 h2; subst h1; subst h2
  show bindL kindOf ((p, w) :: P.zip vs) m p = _
  unfold bindL
  rw [X0 fun v hv => (List.nodup_cons.mp nd).1 (List.of_mem_zip hv).1, if_pos hk]
  simp
 | p :: P, w :: vs, i + 1, m, nd, h1, h2, hk => by
  show bindL kindOf ((p, w) :: P.zip vs) m x = _
  unfold bindL
  exact Xi (i := i) (List.nodup_cons.mp nd).2 (by simpa using h1) (by simpa using h2) hk
theorem Xb {kindOf : Str → Option NameKind} {x : Str} {v : Value} : ∀ {P : List Str} {vs : List Value} {i : Nat} {m : Str → Option Value}, P.Nodup → P[i]? = some x → vs[i]? = some v → kindOf x ≠ some .local →
  bindC kindOf (P.zip vs) m x = some v
 | [], _, _, _, _, h, _, _ => by simp at h
 | _ :: _, [], _, _, _, _, h, _ => by simp at h
 | p :: P, w :: vs, 0, m, nd, h1, h2, hk => by
  simp at h1 h2; subst h1; subst h2
  show bindC kindOf ((p, w) :: P.zip vs) m p = _
  unfold bindC
  rw [X2 fun v hv => (List.nodup_cons.mp nd).1 (List.of_mem_zip hv).1, if_neg hk]
  simp
 | p :: P, w :: vs, i + 1, m, nd, h1, h2, hk => by
  show bindC kindOf ((p, w) :: P.zip vs) m x = _
  unfold bindC
  exact Xb (i := i) (List.nodup_cons.mp nd).2 (by simpa using h1) (by simpa using h2) hk
noncomputable def start (N : List Str) (vs : List V) : St := vs.map some ++ List.replicate (N.length - vs.length) none
noncomputable def EB (CX : CXT) (P : Program) (w : World) (K : PySem.W.Frag) (mg : Str → Option Value) (base : Heap) (N : List Str) (qual : Str) (scope : Scope) (f : Addr) (cd : Value) (A : Around) (outer : List Env) (s : Shared) (H : Hp) (E : XK) : Cx where
 prog := P
 w := w
 K := K
 mg := mg
 base := base
 A := A.deeper (envOfC qual scope s.heap.objs.size f cd)
 N := N
 s₀ := s
 H₀ := H
 env := envOfC qual scope s.heap.objs.size f cd
 outer := outer
 stack := envOfC qual scope s.heap.objs.size f cd :: outer
 ex := []
 calm := true
 fn := fun _ => true
 pn := []
 xe := fun e s' => wpAny (model P w) (A.deeper (envOfC qual scope s.heap.objs.size f cd)) (leaving (envOfC qual scope s.heap.objs.size f cd) e) (fun _ s'' => CX outer H s E e s'') (fun e' s'' => CX outer H s E e' s'') s'
theorem W0 {sc : Scope} {n : Nat} {x : Str} (h : sc.names.lookup x = some .cell) : ∃ c, (cellsFrom n sc.names []).lookup x = some c := by
 have q := PySem.W.cellsFrom_some sc.names n [] (.inl h)
 exact Option.isSome_iff_exists.mp q
theorem BI {CX : CXT} {P : Program} {w : World} {K : PySem.W.Frag} {mg : Str → Option Value} {base : Heap} {N ps : List Str} {qual : Str} {scope : Scope} {f : Addr} {cd : Value} {A : Around} {outer : List Env} {s s1 : Shared} {H : Hp} {E : XK} {us : List Value} {vs : List V}
  (S : Zt N ps scope) (hd : A.handled = none) (e0 : Rw P w K mg base A outer s H) (hl : vs.length = ps.length) (r : Vals vs us)
  (x : InCallC s s.heap.objs.size (bindL (envOfC qual scope s.heap.objs.size f cd).kindOf (ps.zip us) fun _ => none) (cellsFrom (s.heap.objs.size + 1) scope.names []) (bindC (envOfC qual scope s.heap.objs.size f cd).kindOf (ps.zip us) fun _ => none) s1) :
  Inv (EB CX P w K mg base N qual scope f cd A outer s H E) [] (start N vs) H s1 := by
 have hpl : ps.length ≤ N.length := by have := congrArg List.length S.pre; rw [List.length_take] at this; omega
 obtain ⟨h1, tk, rfl, hk⟩ := x.done
 have noA : ∀ b : Addr, b ∉ (EB CX P w K mg base N qual scope f cd A outer s H E).ex := fun b z => absurd (show b ∈ ([] : List Addr) from z) (by simp)
 refine ⟨⟨e0.mod, S.kind, rfl, rfl, Nat.le_refl _, fun y z c h1 h2 => ?_, fun y hy => ?_, fun y c _ h => ?_, fun _ => hd, Around.frames_deeper e0.frames, .inr ⟨rfl, rfl⟩, fun b z => absurd z (noA b), e0.bs, e0.bsz, fun b _ _ => noA b, fun b z => absurd z (noA b), e0.GF, e0.frf⟩,
  rfl, e0.bare, Un.kept hk, ⟨_, x.toInCall.ns, fun i y v h1 h2 h3 => ?_⟩, fun y c h => ⟨_, x.cell y c h⟩, e0.hok.fresh (Nat.le_refl _), fun y c h => ?_, fun p hp => absurd (show p ∈ ([] : List (Addr × Obj)) from hp) (by simp), e0.hok.kept hk, ?_⟩
 ·exact name_of_addr x.apart (PySem.mem_of_lookup h1) (PySem.mem_of_lookup h2)
 ·have hy : scope.names.lookup y = some .cell ∨ scope.names.lookup y = some .free := hy
  rcases hy with hy | hy
  ·exact W0 hy
  ·exact absurd rfl (S.nofree _ (PySem.mem_of_lookup hy))
 ·exact Nat.le_of_lt (x.above y c (PySem.mem_of_lookup h))
 ·have hi : i < vs.length := by
   unfold start at h2
   by_cases hi : i < vs.length
   ·exact hi
   ·rw [List.getElem?_append_right (by simpa using hi)] at h2
    rw [List.getElem?_replicate] at h2
    split at h2 <;> cases h2
  have ha : vs[i]? = some v := by
   unfold start at h2
   rw [List.getElem?_append_left (by simpa using hi), List.getElem?_map] at h2
   cases e : vs[i]? with
   | none => rw [e] at h2; cases h2
   | some a => rw [e] at h2; cases h2; rfl
  obtain ⟨u, hu, rv⟩ := r.get ha
  have hp : ps[i]? = some y := by
   rw [← S.pre, List.getElem?_take_of_lt (by omega)]; exact h1
  have ndP : ps.Nodup := by rw [← S.pre]; exact S.nd.sublist (List.take_sublist _ _)
  refine ⟨u, rv, ?_⟩
  rcases S.par y (List.mem_of_getElem? hp) with k | k
  ·exact .inl ⟨k, Xi ndP hp hu k⟩
  ·obtain ⟨c, e⟩ := W0 (n := s.heap.objs.size + 1) k
   refine .inr ⟨.inl k, c, e, ?_⟩
   have q := x.cell y c e
   rw [Xb ndP hp hu (by show scope.names.lookup y ≠ _; rw [k]; decide)] at q
   exact q
 ·exact e0.hok.fresh (Nat.le_of_lt (x.above y c (PySem.mem_of_lookup h)))
 ·unfold start
  show _ = N.length
  rw [List.length_append, List.length_map, List.length_replicate]
  omega
theorem R3 {CX : CXT} {P : Program} {w : World} {K : PySem.W.Frag} {mg : Str → Option Value} {base : Heap} {k : Nat} {f : Addr} {name qual : Str} {params : Arguments} {body : List Stmt} {scope : Scope} {dV kV doc pm cdv ct oc : Value} {an od : Option Addr}
  {osl : Array (Option Value)} {N ps : List Str} {sp : Sp} (lk : K.lookup f = some ⟨oc, od, .func (PySem.W.fnOf name qual params body scope dV kV doc pm an cdv ct), osl⟩) (hcd : PySem.W.codeIn K cdv qual = true) (S : Zt N ps scope)
  (len : ∀ vs H Q E, sp vs H Q E → vs.length = ps.length)
  (hbody : ∀ (A : Around) (outer : List Env) (s : Shared) (H : Hp) (vs : List V) (Q : VK) (E : XK), J0 k (A.deeper (envOfC qual scope s.heap.objs.size f cdv)) → sp vs H Q E →
   ∃ t, PSs (EB CX P w K mg base N qual scope f cdv A outer s H E) body t ∧ t { nx := fun _ H' => Q .non H', rt := Q } (start N vs) H) :
  ZX P w K mg base CX (k + 1) f (PySem.W.fnOf name qual params body scope dV kV doc pm an cdv ct) ps sp := by
 refine ⟨len, fun A outer s H args us vs Q E hr e0 hb r hsp => ?_⟩
 have hl := len _ _ _ _ hsp
 have KX : K.In s.heap := e0.mod.kin.keeps fun b o e => (e0.bs b o e).1
 have lim : s.heap.NoLimit := e0.mod.nolimit.keeps fun b o e => (e0.bs b o e).1
 have hkind : ∀ y ∈ ps.zip us, scope.names.lookup y.1 = some .local ∨ (scope.names.lookup y.1 = some .cell ∧ ((cellsFrom (s.heap.objs.size + 1) scope.names []).lookup y.1).isSome = true) := fun ⟨n, v⟩ hy => by
  rcases S.par n (List.of_mem_zip hy).1 with q | q
  ·exact .inl q
  ·exact .inr ⟨q, PySem.W.cellsFrom_some _ _ _ (.inl q)⟩
 refine codeAny_call_function hr.depth (KX _ _ lk) rfl S.co S.gen rfl (PySem.W.codeRec_of KX hcd) (hb _ _ _ _ ?_)
 refine wpAny_newFunctionEnv_cells S.kind hkind fun env he s1 x => ?_
 subst he
 refine ⟨lim.keeps x.toInCall.keep, codeAny_func ?_⟩
 obtain ⟨t, ht, hq⟩ := hbody A outer s H vs Q E (hr.deeper _) hsp
 have I : Inv (EB CX P w K mg base N qual scope f cdv A outer s H E) [] (start N vs) H s1 := BI S hr.hd e0 hl r x
 refine wpAny_mono (ht [] s1 (start N vs) H _ I hq) (fun fl s' hs => ?_) fun e s' hs => hs
 have fin : ∀ {σ' : St} {H' : Hp} {v : V} {u : Value}, Inv (EB CX P w K mg base N qual scope f cdv A outer s H E) [] σ' H' s' → RelV v u → Q v H' → CE outer P w H s Q u s' :=
  fun {σ' H' v u} J rv q => ⟨v, H', J.os, J.bare, J.base, J.hok, rv, q⟩
 cases fl with
 | ret u =>
  obtain ⟨v, σ', H', J, rv, q⟩ := hs
  exact fin J rv q
 | next =>
  obtain ⟨σ', H', J, q⟩ := hs
  exact fin (v := V.non) (u := Value.none) J rfl q
 | brk =>
  obtain ⟨_, _, _, q⟩ := hs
  exact False.elim q
 | cont =>
  obtain ⟨_, _, _, q⟩ := hs
  exact False.elim q
end L2
namespace L2
open PySem PySem.Spec PyProof.Rows
section
variable {X : Cx} {x : Str} {p pos : Pos} {e : Expr} {es : List Expr} {t : TA} {id T : String} {r : List V → Hp → VK → Prop}
noncomputable def tCB (r : List V → Hp → VK → Prop) (t : TA) : TE := fun σ H Q => t σ H fun vs H1 => r vs H1 Q
theorem Ws (hc : QA X (.builtin id) r) (hg : Gl X x) (hm : X.mg x = none) (hv : bootBuiltins x = some (.builtin id)) (ha : PA X (e :: es) t) (hn : x ≠ "__name__" := by decide) (hdb : (x == ("__debug__" : Str)) = false := by decide)
  (he : starEach (e :: es) X.env = (false, eval e X.env) :: starEach es X.env := by rfl) (hpl : (backTo pos (starEach es X.env)).any (·.1) = false := by rfl) : PE X (.Call (.Name x p) (e :: es) [] pos) (tCB r t) := by
 intro pins s σ H Q I h
 refine wpAny_Call_Name_kw (X3 I hg hm hv ?_ hn hdb)
 exact PyProof.Rows.callWith_builtin1 (thn (ha pos pins s σ H _ I h) fun us s1 ⟨vs, H1, I1, r1, q1⟩ => hc pins s1 σ H1 vs us Q I1 r1 q1) he hpl
theorem GC (hc : QA X (.type T) r) (hg : Gl X x) (hm : X.mg x = none) (hv : bootBuiltins x = some (.type T)) (ha : PA X (e :: es) t) (hn : x ≠ "__name__" := by decide) (hdb : (x == ("__debug__" : Str)) = false := by decide)
  (he : starEach (e :: es) X.env = (false, eval e X.env) :: starEach es X.env := by rfl) (hpl : (backTo pos (starEach es X.env)).any (·.1) = false := by rfl) : PE X (.Call (.Name x p) (e :: es) [] pos) (tCB r t) := by
 intro pins s σ H Q I h
 refine wpAny_Call_Name_kw (X3 I hg hm hv ?_ hn hdb)
 exact PyProof.Rows.callWith_type1 (thn (ha pos pins s σ H _ I h) fun us s1 ⟨vs, H1, I1, r1, q1⟩ => hc pins s1 σ H1 vs us Q I1 r1 q1) he hpl
end
end L2
namespace HT
open PySem PyProof.Rows
noncomputable def lexLt : List Int → List Int → Bool
 | [], [] => false
 | [], _ :: _ => true
 | _ :: _, [] => false
 | x :: xs, y :: ys => if x = y then lexLt xs ys else decide (x < y)
section
open PySem.SeqAt
open PySem.AutoSeq1 (wpAny_loadPart')
open PySem.MeetsSeq PySem.MeetsSeq2 PySem.MeetsSeq3
end
section
variable {prog : Program} {w : World} {A : Around} {E : Value → Shared → Prop} {s : Shared}
theorem Hj {t b : Addr} {vs ws : List Value} {Q : Value → Shared → Prop} (ht : IsTup s.heap t vs.toArray) (hb : IsTup s.heap b ws.toArray) (hv : vs ≠ [])
  (h1 : ws = [] → Q (.ref t) s) (h2 : ws ≠ [] → Q (.ref s.heap.objs.size) { s with heap := s.heap.push { cls := .type "tuple", data := .seq (vs ++ ws).toArray } })
  (hsz : vs.length + ws.length ≤ sizeLine) : wpAny (model prog w) A (binaryOp .Add (.ref t) (.ref b)) Q E s := by
 obtain ⟨⟨cls, dd, data, sl⟩, ho, hc, n, hd⟩ := id ht
 obtain ⟨⟨cls2, dd2, data2, sl2⟩, ho2, hc2, n2, hd2⟩ := id hb
 simp only at hc hd hc2 hd2
 subst hc hd hc2 hd2
 have e : vs.toArray ++ ws.toArray = (vs ++ ws).toArray := by simp
 by_cases hw : ws = []
 ·exact concat_meets ⟨_, ho, rfl⟩ ⟨_, ho2, rfl⟩ noFill_tuple_add seq_tuple_add PySem.F.slot_tuple_add PySem.F.entry_tuple_add (PySem.F.args_tuple_add_2 _ _)
   (tuple_addW1 t b vs.toArray ws.toArray n n2 dd dd2 sl sl2 (by simpa using hv) (by simp [hw])) ⟨ho, ho2, h1 hw⟩
 ·refine concat_meets ⟨_, ho, rfl⟩ ⟨_, ho2, rfl⟩ noFill_tuple_add seq_tuple_add PySem.F.slot_tuple_add PySem.F.entry_tuple_add (PySem.F.args_tuple_add_2 _ _)
   (tuple_addW2 t b vs.toArray ws.toArray n n2 dd dd2 sl sl2 (by simpa using hv) (by simpa using hw) (by rw [List.size_toArray, List.size_toArray]; exact hsz)) ⟨ho, ho2, ?_⟩
  rw [e]
  exact h2 hw
noncomputable def sIx (n d : Nat) : Option Int → Nat
 | none => d
 | some v => if v < 0 then (v + (n : Int)).toNat else min v.toNat n
theorem Wr (n d : Nat) : sIx n d none = d := rfl
theorem GQ (n d k : Nat) : sIx n d (some (k : Int)) = min k n := by
 show (if (k : Int) < 0 then ((k : Int) + (n : Int)).toNat else min (k : Int).toNat n) = min k n
 rw [if_neg (by omega), Int.toNat_natCast]
theorem EC (n d : Nat) (hd : d ≤ n) (o : Option Int) : sIx n d o ≤ n := by
 cases o with
 | none => exact hd
 | some v =>
  show (if v < 0 then (v + (n : Int)).toNat else min v.toNat n) ≤ n
  by_cases hv : v < 0
  ·rw [if_pos hv]; omega
  ·rw [if_neg hv]; exact Nat.min_le_right _ _
theorem Bu (v : Int) (n d : Nat) : (if v < 0 then max (v + (n : Int)) 0 else min v (n : Int)) = ((sIx n d (some v) : Nat) : Int) := by
 show (if v < 0 then max (v + (n : Int)) 0 else min v (n : Int)) = (((if v < 0 then (v + (n : Int)).toNat else min v.toNat n) : Nat) : Int)
 by_cases hv : v < 0
 ·simp only [if_pos hv]; omega
 ·simp only [if_neg hv]; omega
theorem Uu (lo hi : Option Int) (n : Nat) : Builtin.Slice.sliceAdjust lo hi 1 (n : Int) = (((sIx n 0 lo : Nat) : Int), ((sIx n n hi : Nat) : Int)) := by
 have h1 : ¬ ((1 : Int) < 0) := by omega
 unfold Builtin.Slice.sliceAdjust
 simp only [h1, if_false]
 refine Prod.ext ?_ ?_
 ·cases lo with
  | none => rfl
  | some v => exact Bu v n 0
 ·cases hi with
  | none => rfl
  | some v => exact Bu v n n
theorem Uo (i j : Nat) : Builtin.Slice.slicePlaces (i : Int) (j : Int) 1 = j - i := by
 unfold Builtin.Slice.slicePlaces
 have h1 : (1 : Int) > 0 := by omega
 simp only [h1, if_true, Int.ediv_one]
 split <;> omega
theorem VY {v : Value} {o : Option Int} {Q : Option Int → Shared → Prop} (p : IsPart v o) (h : Q o s) : wpAny (model prog w) A (Builtin.Slice.slicePartIndex v) Q E s := by
 cases p with
 | none => exact slicePart_none h
 | int i t => exact slicePart_int h
theorem QN {sl : Addr} {vl vu : Value} {lo hi : Option Int} {n : Nat} {Q : Int × Int × Nat → Shared → Prop} (hs : s.heap.IsSliceOf sl vl vu .none) (pl : IsPart vl lo) (pu : IsPart vu hi)
  (h : Q (((sIx n 0 lo : Nat) : Int), 1, sIx n n hi - sIx n 0 lo) s) : wpAny (model prog w) A (Builtin.Slice.sliceApplied (.ref sl) (pure (n : Int))) Q E s := by
 obtain ⟨os, hos, hcs, hds⟩ := id hs
 unfold Builtin.Slice.sliceApplied Builtin.Slice.sliceFields
 refine wpAny_bind (wpAny_bind (wpAny_field hos hds (x := vl) rfl (wpAny_bind (wpAny_field hos hds (x := vu) rfl (wpAny_bind (wpAny_field hos hds (x := .none) rfl (wpAny_pure ?_)))))))
 refine wpAny_bind (slicePart_none ?_)
 show wpAny _ _ (if ((1 : Int) == 0) = true then _ else _) _ _ s
 rw [if_neg (by decide)]
 refine wpAny_bind (VY pl (wpAny_bind (VY pu (wpAny_bind (wpAny_pure ?_)))))
 show wpAny _ _ (match Builtin.Slice.sliceAdjust lo hi 1 (n : Int) with | (lo, hi) => pure (lo, (1 : Int), Builtin.Slice.slicePlaces lo hi 1)) _ _ s
 rw [Uu lo hi n]
 show wpAny _ _ (pure (((sIx n 0 lo : Nat) : Int), (1 : Int), Builtin.Slice.slicePlaces ((sIx n 0 lo : Nat) : Int) ((sIx n n hi : Nat) : Int) 1)) _ _ s
 rw [Uo]
 exact wpAny_pure h
theorem C7 (xs : Array Value) (i k : Nat) : ((List.range k).filterMap fun (m : Nat) => xs[((i : Int) + (m : Int) * 1).toNat]?).toArray = ((xs.toList.drop i).take k).toArray := by
 have e : (fun (m : Nat) => xs[((i : Int) + (m : Int) * 1).toNat]?) = fun m => xs[i + m]? := by
  funext m
  have : ((i : Int) + (m : Int) * 1).toNat = i + m := by omega
  rw [this]
 rw [e]
 have := pick_run xs i k
 rw [List.filterMap_map] at this
 have e2 : ((fun x => xs[x]?) ∘ fun x => i + x) = fun m => xs[i + m]? := rfl
 rw [e2] at this
 rw [this]
theorem JW {t sl : Addr} {items : Array Value} {vl vu : Value} {lo hi : Option Int} {Q : Value → Shared → Prop} (ht : IsTup s.heap t items) (hs : s.heap.IsSliceOf sl vl vu .none) (pl : IsPart vl lo) (pu : IsPart vu hi)
  (hw : ¬ (sIx items.size 0 lo = 0 ∧ sIx items.size items.size hi = items.size))
  (h : Q (.ref s.heap.objs.size) { s with heap := s.heap.push { cls := .type "tuple", data := .seq ((items.toList.drop (sIx items.size 0 lo)).take (sIx items.size items.size hi - sIx items.size 0 lo)).toArray } })
  (hsz : items.size ≤ sizeLine) : wpAny (model prog w) A (getItem (.ref t) (.ref sl)) Q E s := by
 have htake : sizeOk (.seq ((items.toList.drop (sIx items.size 0 lo)).take (sIx items.size items.size hi - sIx items.size 0 lo)).toArray) := by
  show ((items.toList.drop (sIx items.size 0 lo)).take (sIx items.size items.size hi - sIx items.size 0 lo)).toArray.size ≤ sizeLine
  rw [List.size_toArray, List.length_take, List.length_drop, Array.length_toList]
  omega
 have hj : sIx items.size items.size hi ≤ items.size := EC _ _ (Nat.le_refl _) hi
 obtain ⟨os, hos, hcs, hds⟩ := id hs
 have hTs : s.TypeIs (.ref sl) "slice" := ⟨os, hos, hcs⟩
 unfold getItem
 try with_reducible refine wpAny_holding ?_
 first | refine wpAny_bind (wpAny_pure ?_) | skip
 refine wpAny_bind (wpAny_sequenceKey ht.typeIs (by decide) ?_)
 refine wpAny_bind (wpAny_callSpecial?_slot (name := Str.ofString "__getitem__") ht.typeIs PyProof.Rows.slot_tuple_getitem
  (wpAny_call_entry PyProof.Rows.slot_tuple_getitem ht.typeIs entry_tuple_getitem ?_ (args_tuple_getitem _ _)))
 show wpAny _ _ (Builtin.Tuple.tupleItemsOf (.ref t) >>= _) _ _ s
 refine wpAny_bind (tupleItemsOf_ ht ?_)
 refine wpAny_bind (wpAny_typeOf hTs ?_)
 rw [if_pos (by decide)]
 refine wpAny_bind (QN hs pl pu ?_)
 have hno : ¬ ((((sIx items.size 0 lo : Nat) : Int) == 0 && (1 : Int) == 1 && (sIx items.size items.size hi - sIx items.size 0 lo) == items.size) = true) := by
  intro q
  rw [Bool.and_eq_true, Bool.and_eq_true] at q
  have q1 : ((sIx items.size 0 lo : Nat) : Int) = 0 := eq_of_beq q.1.1
  have q2 : sIx items.size items.size hi - sIx items.size 0 lo = items.size := eq_of_beq q.2
  exact hw ⟨by omega, by omega⟩
 show wpAny _ _ (if (((sIx items.size 0 lo : Nat) : Int) == 0 && (1 : Int) == 1 && (sIx items.size items.size hi - sIx items.size 0 lo) == items.size) = true then _ else _) _ _ s
 rw [if_neg hno, C7]
 first
  | exact wpAny_bind (m := Builtin.Tuple.tupleExact _) (wpAny_newObj_type (wpAny_pure ⟨_, rfl, wpAny_pure h⟩) htake)
  | exact wpAny_bind (m := Builtin.Tuple.tupleExact _) (wpAny_newObj_type (wpAny_bind (wpAny_pure (wpAny_pure ⟨_, rfl, wpAny_pure h⟩))) htake)
  | exact wpAny_bind (wpAny_bind (m := Builtin.Tuple.tupleExact _) (wpAny_newObj_type (wpAny_pure (wpAny_pure ⟨_, rfl, wpAny_pure h⟩)) htake))
  | exact wpAny_bind (wpAny_bind (m := Builtin.Tuple.tupleExact _) (wpAny_newObj_type (wpAny_pure ⟨_, rfl, wpAny_pure h⟩) htake))
end
end HT
namespace L2
open PySem PySem.Spec PyProof.Rows
noncomputable abbrev TO := St → Hp → (Option Int → Hp → Prop) → Prop
noncomputable def PO (X : Cx) (e : Option Expr) (t : TO) : Prop :=
 ∀ (pins : List (Addr × Obj)) (s : Shared) (σ : St) (H : Hp) (Q : Option Int → Hp → Prop), Inv X pins σ H s → t σ H Q →
  wpAny (model X.prog X.w) X.A (evalPart e X.env) (fun u s' => ∃ o H', Inv X pins σ H' s' ∧ IsPart u o ∧ Q o H') X.xe s
noncomputable def LD : TO := fun _ H Q => Q none H
noncomputable def R5 (t : TE) : TO := fun σ H Q => t σ H fun x H1 => ∃ i, x = .int i ∧ Q (some i) H1
section
variable {X : Cx} {e : Expr} {te : TE} {lo hi : Option Expr} {tl th : TO} {pos p2 : Pos}
theorem Ln : PO X none LD := by
 intro pins s σ H Q I h
 rw [evalPart_none]
 exact wpAny_pure ⟨none, H, I, .none, h⟩
theorem HU (h : PE X e te) : PO X (some e) (R5 te) := by
 intro pins s σ H Q I hw
 rw [evalPart_some]
 refine thn (h pins s σ H _ I hw) fun u s1 ⟨x, H1, I1, r1, q1⟩ => ?_
 obtain ⟨i, rfl, q⟩ := q1
 obtain ⟨t, rfl⟩ := r1
 exact ⟨some i, H1, I1, .int i t, q⟩
noncomputable def SlR (X : Cx) (r : V → Option Int → Option Int → Hp → VK → Prop) : Prop :=
 ∀ (pins : List (Addr × Obj)) (s : Shared) (σ : St) (H : Hp) (x : V) (v vl vu : Value) (lo hi : Option Int) (sl : Addr) (Q : VK), Inv X pins σ H s → RelV x v → s.heap.IsSliceOf sl vl vu .none → IsPart vl lo → IsPart vu hi → r x lo hi H Q →
  ∃ T id, typeLookup (.type T) "__getitem__" = pure (some (.builtin id)) ∧ s.TypeIs v T ∧ wpAny (model X.prog X.w) X.A (getItem v (.ref sl)) (EP X pins σ Q) X.xe s
theorem SlR.or {r r' : V → Option Int → Option Int → Hp → VK → Prop} (h : SlR X r) (h' : SlR X r') : SlR X (fun x lo hi H Q => r x lo hi H Q ∨ r' x lo hi H Q) := by
 intro pins s σ H x v vl vu lo hi sl Q I rx hs pl pu q
 rcases q with q | q
 ·exact h pins s σ H x v vl vu lo hi sl Q I rx hs pl pu q
 ·exact h' pins s σ H x v vl vu lo hi sl Q I rx hs pl pu q
noncomputable def tSl (r : V → Option Int → Option Int → Hp → VK → Prop) (te : TE) (tl th : TO) : TE := fun σ H Q => te σ H fun x H1 => tl σ H1 fun l H2 => th σ H2 fun u H3 => r x l u H3 Q
theorem Er {r : V → Option Int → Option Int → Hp → VK → Prop} (hr : SlR X r) (he : PE X e te) (hl : PO X lo tl) (hu : PO X hi th) : PE X (.Subscript e (.Slice lo hi none p2) pos) (tSl r te tl th) := by
 intro pins s σ H Q I h
 refine Subscript_ (thn (he pins s σ H _ I h) fun v s1 ⟨x, H1, I1, r1, q1⟩ => ?_)
 refine wpAny_Slice (thn (hl pins s1 σ H1 _ I1 q1) fun vl s2 ⟨l, H2, I2, pl, q2⟩ => thn (hu pins s2 σ H2 _ I2 q2) fun vu s3 ⟨u, H3, I3, pu, q3⟩ => ?_)
 rw [evalPart_none]
 refine wpAny_pure ?_
 have I4 : Inv X pins σ H3 { s3 with heap := s3.heap.push { cls := .type "slice", data := .fields #[vl, vu, .none] } } := I3.kept (t' := s3.toks) fun b ob q => Heap.get?_push_of_some _ q
 obtain ⟨T, id, hT, ht, hg⟩ := hr pins { s3 with heap := s3.heap.push { cls := .type "slice", data := .fields #[vl, vu, .none] } } σ H3 x v vl vu l u s3.heap.objs.size Q I4 r1 (Heap.IsSliceOf.new ..) pl pu q3
 show wpAny (model X.prog X.w) X.A (subscriptTail e (.Slice lo hi none p2) v (.ref s3.heap.objs.size)) (EP X pins σ Q) X.xe { s3 with heap := s3.heap.push { cls := .type "slice", data := .fields #[vl, vu, .none] } }
 exact tail_any (ops := [.ref s3.heap.objs.size, v]) ht hT hg (by with_unfolding_all rfl)
noncomputable def FH (xs : List V) (lo hi : Option Int) : List V := (xs.drop (HT.sIx xs.length 0 lo)).take (HT.sIx xs.length xs.length hi - HT.sIx xs.length 0 lo)
theorem K4 (xs : List V) (lo hi : Option Int) : (FH xs lo hi).length ≤ xs.length := by
 unfold FH
 rw [List.length_take, List.length_drop]
 omega
noncomputable def Zb5 (K : PySem.W.Frag) : V → Option Int → Option Int → Hp → VK → Prop := fun x lo hi H Q => ∃ a xs, x = .ref a ∧ SqT K H a xs ∧
 ¬ (HT.sIx xs.length 0 lo = 0 ∧ HT.sIx xs.length xs.length hi = xs.length) ∧ ∀ p, H p = none → Q (.ref p) (upd H p (.tup (FH xs lo hi)))
theorem Ox : SlR X (Zb5 X.K) := by
 intro pins s σ H x v vl vu lo hi sl Q I rx hs pl pu h
 obtain ⟨a, xs, rfl, hx, hw, q⟩ := h
 cases rx
 obtain ⟨its, r, ht, hz⟩ := I.tuple hx
 have hlen : its.toArray.size = xs.length := by rw [List.size_toArray]; exact r.length.symm
 refine ⟨"tuple", _, PyProof.Rows.slot_tuple_getitem.lookup, ht.typeIs, ?_⟩
 refine HT.JW ht hs pl pu (by rw [hlen]; exact hw) ?_ (by rw [hlen]; exact hz)
 rw [hlen]
 refine ⟨.ref s.heap.objs.size, _, I.laid (t' := s.toks) (o := .tup (FH xs lo hi)) (fun b ob q => Heap.get?_push_of_some _ q) (Nat.le_refl _) ?_, rfl, q _ (I.hok.fresh (Nat.le_refl _))⟩
 exact ⟨Nat.le_trans (K4 xs lo hi) hz, _, (r.drop (HT.sIx xs.length 0 lo)).take (HT.sIx xs.length xs.length hi - HT.sIx xs.length 0 lo), IsTup.new _ _⟩
noncomputable def ZcX (K : PySem.W.Frag) : R2 := fun x y H Q => ∃ a b ns ms, x = .ref a ∧ y = .ref b ∧ SqT K H a (ns.map V.int) ∧ SqT K H b (ms.map V.int) ∧ Q (.bl (HT.lexLt ns ms)) H
noncomputable def S5 (K : PySem.W.Frag) : R2 := fun x y H Q => ∃ a b xs ys, x = .ref a ∧ y = .ref b ∧ SqT K H a xs ∧ SqT K H b ys ∧ xs ≠ [] ∧ xs.length + ys.length ≤ sizeLine ∧
 (ys = [] → Q (.ref a) H) ∧ (ys ≠ [] → ∀ p, H p = none → Q (.ref p) (upd H p (.tup (xs ++ ys))))
theorem Vals.YW {xs : List V} {us : List Value} (r : Vals xs us) : us = [] ↔ xs = [] := by
 cases r with
 | nil => simp
 | cons _ _ => simp
theorem LK : OpR X (binaryOp .Add) (S5 X.K) := by
 intro pins s σ H x y v u Q I rx ry h
 obtain ⟨a, b, xs, ys, rfl, rfl, ha, hb, hx, hz, q1, q2⟩ := h
 cases rx
 cases ry
 obtain ⟨its, r1, p1, _⟩ := I.tuple ha
 obtain ⟨its2, r2, p2, _⟩ := I.tuple hb
 refine HT.Hj p1 p2 (fun z => hx (r1.YW.mp z)) (fun z => ⟨.ref a, H, I, rfl, q1 (r2.YW.mp z)⟩) (fun z => ?_) (by rw [← r1.length, ← r2.length]; exact hz)
 refine ⟨.ref s.heap.objs.size, _, I.laid (t' := s.toks) (o := .tup (xs ++ ys)) (fun b ob q => Heap.get?_push_of_some _ q) (Nat.le_refl _) ?_, rfl, q2 (fun w => z (r2.YW.mpr w)) _ (I.hok.fresh (Nat.le_refl _))⟩
 exact ⟨by rw [List.length_append]; exact hz, _, r1.append r2, IsTup.new _ _⟩
end
end L2
namespace L2
open PySem PySem.Spec PyProof.Rows
noncomputable def ixN (n : Nat) (i : Int) : Option Nat := if 0 ≤ i then (if i < n then some i.toNat else none) else if -(n : Int) ≤ i then some (i + n).toNat else none
noncomputable def atI {α : Type} (xs : List α) (i : Int) : Option α := (ixN xs.length i).bind fun j => xs[j]?
theorem Gv {n : Nat} {i : Int} {j : Nat} (h : ixN n i = some j) : seqIndex? i n = some j ∧ j < n ∧ -(n : Int) ≤ i ∧ i < n := by
 unfold ixN at h
 by_cases h0 : 0 ≤ i
 ·rw [if_pos h0] at h
  by_cases h1 : i < n
  ·rw [if_pos h1] at h
   have e : i.toNat = j := Option.some.inj h
   exact ⟨by rw [seqIndex_of h0 h1, e], by omega, by omega, h1⟩
  ·rw [if_neg h1] at h; cases h
 ·rw [if_neg h0] at h
  by_cases h1 : -(n : Int) ≤ i
  ·rw [if_pos h1] at h
   have e : (i + n).toNat = j := Option.some.inj h
   exact ⟨by rw [seqIndex_neg (by omega) h1, e], by omega, h1, by omega⟩
  ·rw [if_neg h1] at h; cases h
theorem Wb {α : Type} {xs : List α} {i : Int} {v : α} (h : atI xs i = some v) : ∃ j, seqIndex? i xs.length = some j ∧ xs[j]? = some v ∧ j < xs.length ∧ -(xs.length : Int) ≤ i ∧ i < xs.length := by
 unfold atI at h
 cases e : ixN xs.length i with
 | none => rw [e] at h; cases h
 | some j =>
  rw [e] at h
  obtain ⟨h1, h2, h3, h4⟩ := Gv e
  exact ⟨j, h1, h, h2, h3, h4⟩
theorem JQ {α : Type} {xs : List α} {j : Nat} {v : α} (h : xs[j]? = some v) : atI xs (j : Int) = some v := by
 have hj : j < xs.length := (List.getElem?_eq_some_iff.mp h).1
 have e : ixN xs.length (j : Int) = some j := by
  unfold ixN
  rw [if_pos (by omega), if_pos (by omega)]; simp
 unfold atI; rw [e]; exact h
noncomputable def Kt (b : Expr) : Prop := ∀ o i, subscripted b false o i = operate [o, i] (getItem o i)
noncomputable def IxR (X : Cx) (r : R2) : Prop :=
 ∀ (value slice : Expr) (pins : List (Addr × Obj)) (s : Shared) (σ : St) (H : Hp) (x y : V) (v u : Value) (Q : VK), Inv X pins σ H s → RelV x v → RelV y u → r x y H Q →
  subscripted slice false v u = operate [v, u] (getItem v u) → wpAny (model X.prog X.w) X.A (subscriptTail value slice v u) (EP X pins σ Q) X.xe s
noncomputable def MtR (X : Cx) (id : String) (r : V → List V → Hp → VK → Prop) : Prop :=
 ∀ (pins : List (Addr × Obj)) (s : Shared) (σ : St) (H : Hp) (x : V) (xs : List V) (v : Value) (us : List Value) (Q : VK), Inv X pins σ H s → RelV x v → Vals xs us → r x xs H Q →
  wpAny (model X.prog X.w) X.A (call (.builtin id) (v :: us)) (EP X pins σ Q) X.xe s
section
variable {X : Cx} {a b : Expr} {ta tb : TE} {pos : Pos}
theorem IxR.or {r r' : R2} (h : IxR X r) (h' : IxR X r') : IxR X (fun x y H Q => r x y H Q ∨ r' x y H Q) := by
 intro value slice pins s σ H x y v u Q I rx ry q hs
 rcases q with q | q
 ·exact h value slice pins s σ H x y v u Q I rx ry q hs
 ·exact h' value slice pins s σ H x y v u Q I rx ry q hs
theorem MtR.or {id : String} {r r' : V → List V → Hp → VK → Prop} (h : MtR X id r) (h' : MtR X id r') : MtR X id (fun x xs H Q => r x xs H Q ∨ r' x xs H Q) := by
 intro pins s σ H x xs v us Q I rx rs q
 rcases q with q | q
 ·exact h pins s σ H x xs v us Q I rx rs q
 ·exact h' pins s σ H x xs v us Q I rx rs q
theorem O4 {r : R2} (hr : IxR X r) (ha : PE X a ta) (hb : PE X b tb) (hs : Kt b) : PE X (.Subscript a b pos) (tOp r ta tb) := by
 intro pins s σ H Q I h
 exact Subscript_ (RQ ha hb I h fun v u s2 x y H2 I2 rx ry q => hr a b pins s2 σ H2 x y v u Q I2 rx ry q (hs _ _))
noncomputable def Zab (K : PySem.W.Frag) : R2 := fun x y H Q => ∃ p xs i v, x = .ref p ∧ y = .int i ∧ SqL K H p xs ∧ atI xs i = some v ∧ Q v H
noncomputable def Zav (K : PySem.W.Frag) : R2 := fun x y H Q => ∃ p xs i v, x = .ref p ∧ y = .int i ∧ SqT K H p xs ∧ atI xs i = some v ∧ Q v H
noncomputable def ZaL : R2 := fun x y H Q => ∃ z i c, x = .str z ∧ y = .int i ∧ z.length ≤ sizeLine ∧ atI z.cps.toList i = some c ∧ Q (.str ⟨#[c]⟩) H
theorem FC : IxR X (Zab X.K) := by
 intro value slice pins s σ H x y v u Q I rx ry h hs
 obtain ⟨p, xs, i, z, rfl, rfl, hq, he, q⟩ := h
 cases rx
 obtain ⟨t, rfl⟩ := ry
 obtain ⟨its, r, pl, hz⟩ := I.list hq
 obtain ⟨j, h1, h2, h3, h4, h5⟩ := Wb he
 obtain ⟨w, ew, rw'⟩ := r.get h2
 have hl := r.length
 have hn := V8
 have fin : EP X pins σ Q w s := ⟨z, H, I, rw', q⟩
 by_cases h0 : 0 ≤ i
 ·have hj : i.toNat = j := by
   rw [seqIndex_of h0 h5] at h1
   exact Option.some.inj h1
  exact item_listR pl.isList h0 (by omega) (by rw [hj]; simpa using ew) fin hs
 ·have hj : (i + (its.toArray.size : Int)).toNat = j := by
   rw [seqIndex_neg (by omega) h4] at h1
   rw [List.size_toArray, ← hl]
   exact Option.some.inj h1
  exact subscriptTail_builtinR (x := w) pl.isList.typeIs slot_list_getitem.lookup
   (wpAny_getItem_list_neg (Q := fun r s' => r = w ∧ EP X pins σ Q r s') pl.isList (by omega) (by rw [List.size_toArray] <;> omega) (by omega) (by rw [hj]; simpa using ew) ⟨rfl, fin⟩) hs
theorem OD : IxR X (Zav X.K) := by
 intro value slice pins s σ H x y v u Q I rx ry h hs
 obtain ⟨p, xs, i, z, rfl, rfl, hq, he, q⟩ := h
 cases rx
 obtain ⟨t, rfl⟩ := ry
 obtain ⟨its, r, pl, hz⟩ := I.tuple hq
 obtain ⟨j, h1, h2, h3, h4, h5⟩ := Wb he
 obtain ⟨w, ew, rw'⟩ := r.get h2
 have hl := r.length
 have hn := V8
 have fin : EP X pins σ Q w s := ⟨z, H, I, rw', q⟩
 exact subscriptTail_builtinR (x := w) pl.typeIs slot_tuple_getitem.lookup
  (getItem_tuple (j := j) (Q := fun r s' => r = w ∧ EP X pins σ Q r s') pl (by omega) (by omega) (by rw [List.size_toArray, ← hl]; exact h1) (by simpa using ew) ⟨rfl, fin⟩) hs
theorem Nj : IxR X ZaL := by
 intro value slice pins s σ H x y v u Q I rx ry h hs
 obtain ⟨z, i, c, rfl, rfl, hz, he, q⟩ := h
 obtain ⟨t, rfl⟩ := rx
 obtain ⟨t', rfl⟩ := ry
 obtain ⟨j, h1, h2, h3, h4, h5⟩ := Wb he
 have hl : z.cps.toList.length = z.length := by simp [Str.length]
 rw [hl] at h1 h4 h5
 have hn := V8
 exact tail_any (typeIs_str s z t) slot_str_getitem.lookup (getItem_str (c := c) (by
  have e1 : decide (i < -(2 ^ 63 : Int)) = false := decide_eq_false (by omega)
  have e2 : decide (i ≥ 2 ^ 63) = false := decide_eq_false (by omega)
  rw [e1, e2, Bool.or_false]) (by rw [h1]; simpa using h2) ⟨.str ⟨#[c]⟩, H, I.tok _, ⟨_, rfl⟩, q⟩) hs
noncomputable def rIx (K : PySem.W.Frag) : R2 := fun x y H Q => Zab K x y H Q ∨ Zav K x y H Q ∨ ZaL x y H Q
theorem EL : IxR X (rIx X.K) := FC.or (OD.or Nj)
theorem Ua (its : List Value) (n j : Nat) (u : Value) : Obj.mapSeq (·.setIfInBounds j u) { cls := .type "list", data := .seq its.toArray n } = { cls := .type "list", data := .seq (its.set j u).toArray n } := by
 simp [Obj.mapSeq]
theorem Inv.lst {pins : List (Addr × Obj)} {σ : St} {H : Hp} {s : Shared} {p : Addr} {xs : List V} (I : Inv X pins σ H s) (h : H p = some (.lst xs)) :
  ∃ (its : List Value) (n : Nat), Vals xs its ∧ s.heap.get? p = some { cls := .type "list", data := .seq its.toArray n } ∧ xs.length ≤ sizeLine := by
 obtain ⟨z, its, n, r, e⟩ := I.hok p _ h
 exact ⟨its, n, r, e, z⟩
theorem Inv.MC {pins : List (Addr × Obj)} {σ : St} {H : Hp} {s : Shared} {p : Addr} {xs ys : List V} {its its' : List Value} {n n' : Nat} {f : Obj → Obj} (I : Inv X pins σ H s) (h : H p = some (.lst xs))
  (ho : s.heap.get? p = some { cls := .type "list", data := .seq its.toArray n }) (hf : f { cls := .type "list", data := .seq its.toArray n } = { cls := .type "list", data := .seq its'.toArray n' }) (r : Vals ys its') (hz : ys.length ≤ sizeLine) (t : Nat) :
  Inv X pins σ (upd H p (.lst ys)) { s with heap := s.heap.update p f, toks := t } := by
 have e : (s.heap.update p f).get? p = some { cls := .type "list", data := .seq its'.toArray n' } := by
  rw [Heap.get?_update_self f ho (by rw [hf] <;> rfl), hf]
 refine I.write (x := p) (e := p) (by rw [h]; trivial) (.inl rfl) (fun b u hb q => (Heap.get?_update_other _ _ (Ne.symm hb)).trans q) ⟨_, e⟩ ?_
 exact ⟨hz, its', n', r, e⟩
noncomputable def SF : V → V → V → Hp → (Hp → Prop) → Prop := fun o i v H Q => ∃ p xs k j, o = .ref p ∧ i = .int k ∧ H p = some (.lst xs) ∧ ixN xs.length k = some j ∧ Q (upd H p (.lst (xs.set j v)))
theorem set_list : ZaD X SF := by
 intro pins s σ H o i v ov iv u Q I ro ri rv h
 obtain ⟨p, xs, k, j, rfl, rfl, hp, hj, q⟩ := h
 cases ro
 obtain ⟨t, rfl⟩ := ri
 obtain ⟨its, n, r, ho, hz⟩ := I.lst hp
 obtain ⟨h1, h2, h3, h4⟩ := Gv hj
 have hl := r.length
 have hn := V8
 have I' : Inv X pins σ (upd H p (.lst (xs.set j v))) { s with heap := s.heap.update p (Obj.mapSeq (·.setIfInBounds j u)) } :=
  I.MC hp ho (Ua its n j u) (r.set rv j) (by rw [List.length_set]; exact hz) s.toks
 by_cases h0 : 0 ≤ k
 ·have hk : k.toNat = j := by
   rw [seqIndex_of h0 h4] at h1
   exact Option.some.inj h1
  exact PySem.W.ki_setAt ho h0 (by omega) (by rw [List.size_toArray, ← hl]; exact h4) (by rw [hk]; exact ⟨_, I', q⟩)
 ·have hk : (k + (its.toArray.size : Int)).toNat = j := by
   rw [seqIndex_neg (by omega) h3] at h1
   rw [List.size_toArray, ← hl]
   exact Option.some.inj h1
  exact PySem.W.ki_setBack ho (by omega) (by rw [List.size_toArray, ← hl]; exact h3) (by omega) (by rw [hk]; exact ⟨_, I', q⟩)
noncomputable def Zcj (K : PySem.W.Frag) : V → Option Int → Option Int → Hp → VK → Prop := fun x lo hi H Q => ∃ a xs, x = .ref a ∧ SqL K H a xs ∧ ∀ p, H p = none → Q (.ref p) (upd H p (.lst (FH xs lo hi)))
noncomputable def N9 : V → Bool
 | .non => true
 | .bl _ => true
 | .int _ => true
 | .str _ => true
 | _ => false
noncomputable def eqV : V → V → Bool
 | .non, .non => true
 | .bl a, .bl b => a == b
 | .bl a, .int b => (if a then 1 else 0) == b
 | .int a, .bl b => a == (if b then 1 else 0)
 | .int a, .int b => a == b
 | .str a, .str b => a == b
 | _, _ => false
noncomputable def eqU (x : V) (u : Value) : Bool := match u with
 | .none => eqV .non x
 | .bool b => eqV (.bl b) x
 | .int i _ => eqV (.int i) x
 | .str z _ => eqV (.str z) x
 | _ => false
noncomputable def inV (x : V) (xs : List V) : Bool := xs.any fun y => eqV y x
noncomputable def rIn (K : PySem.W.Frag) (neg : Bool) : R2 := fun x y H Q => ∃ p xs, y = .ref p ∧ (SqL K H p xs ∨ SqT K H p xs) ∧ N9 x = true ∧ xs.all N9 = true ∧ Q (.bl (if neg then !inV x xs else inV x xs)) H
theorem Xc : QA X (.builtin "len") (fun xs H Q => ∃ p ys, xs = [.ref p] ∧ (SqL X.K H p ys ∨ SqT X.K H p ys) ∧ Q (.int ys.length) H) := by
 intro pins s σ H xs us Q I r h
 obtain ⟨p, ys, rfl, hq, q⟩ := h
 obtain ⟨u, rfl, rx⟩ := vals1 r
 cases rx
 have hn := V8
 rcases hq with hq | hq
 ·obtain ⟨its, r', pl, hz⟩ := I.list hq
  have hlen := r'.length
  exact Calls.call_len_list pl.isList (by simp only [List.size_toArray] <;> omega) ⟨.int ys.length, H, I.tok _, ⟨s.toks + 1, by rw [List.size_toArray, hlen]⟩, q⟩
 ·obtain ⟨its, r', pl, hz⟩ := I.tuple hq
  have hlen := r'.length
  exact len_tuple pl (by simp only [List.size_toArray] <;> omega) ⟨.int ys.length, H, I.tok _, ⟨s.toks + 1, by rw [List.size_toArray, hlen]⟩, q⟩
theorem Y4 : QA X (.builtin "len") (fun xs H Q => ∃ z, xs = [.str z] ∧ z.length ≤ sizeLine ∧ Q (.int z.length) H) := by
 intro pins s σ H xs us Q I r h
 obtain ⟨z, rfl, hz, q⟩ := h
 obtain ⟨u, rfl, t, rfl⟩ := vals1 r
 have hn := V8
 exact len_str (by omega) ⟨.int z.length, H, I.tok _, ⟨_, rfl⟩, q⟩
theorem QA.or {f : Value} {r r' : List V → Hp → VK → Prop} (h : QA X f r) (h' : QA X f r') : QA X f (fun xs H Q => r xs H Q ∨ r' xs H Q) := by
 intro pins s σ H xs us Q I rs q
 rcases q with q | q
 ·exact h pins s σ H xs us Q I rs q
 ·exact h' pins s σ H xs us Q I rs q
theorem J5 : QA X (.type "list") (fun xs H Q => ∃ p ys, xs = [.ref p] ∧ (SqL X.K H p ys ∨ SqT X.K H p ys) ∧ ∀ l, H l = none → Q (.ref l) (upd H l (.lst ys))) := by
 intro pins s σ H xs us Q I r h
 obtain ⟨p, ys, rfl, hq, q⟩ := h
 obtain ⟨u, rfl, rx⟩ := vals1 r
 cases rx
 have fin : ∀ (its : List Value), Vals ys its → ys.length ≤ sizeLine → ∀ (h' : Heap) (c' : Nat), (∀ b o', s.heap.get? b = some o' → h'.get? b = some o') →
   h'.get? s.heap.objs.size = some { cls := .type "list", dict := none, data := .seq its.toArray c', slots := #[] } → EP X pins σ Q (.ref s.heap.objs.size) { s with heap := h' } := fun its r' hz h' c' kp e =>
  ⟨.ref s.heap.objs.size, _, I.laid (t' := s.toks) kp (Nat.le_refl _) (show Qp X.prog X.w _ h' _ (.lst ys) from ⟨hz, its, c', r', e⟩), rfl, q _ (I.hok.fresh (Nat.le_refl _))⟩
 rcases hq with hq | hq
 ·obtain ⟨its, r', pl, hz⟩ := I.list hq
  have hlen := r'.length
  obtain ⟨o, ho, hc, n, hd⟩ := pl.isList
  exact call_list_seq p (.inl rfl) ho hc hd (fun h' c' kp e => fin its r' hz h' c' kp e) (by simp only [List.size_toArray] <;> omega)
 ·obtain ⟨its, r', pl, hz⟩ := I.tuple hq
  have hlen := r'.length
  obtain ⟨o, ho, hc, n, hd⟩ := pl
  exact call_list_seq p (.inr rfl) ho hc hd (fun h' c' kp e => fin its r' hz h' c' kp e) (by simp only [List.size_toArray] <;> omega)
theorem JH : QA X (.type "tuple") (fun xs H Q => ∃ p ys, xs = [.ref p] ∧ ((SqL X.K H p ys ∧ ∀ l, H l = none → Q (.ref l) (upd H l (.tup ys))) ∨ (SqT X.K H p ys ∧ Q (.ref p) H))) := by
 intro pins s σ H xs us Q I r h
 obtain ⟨p, ys, rfl, h⟩ := h
 obtain ⟨u, rfl, rx⟩ := vals1 r
 cases rx
 rcases h with ⟨hq, q⟩ | ⟨hq, q⟩
 ·obtain ⟨its, r', pl, hz⟩ := I.list hq
  have hlen := r'.length
  refine call_tuple_list pl.isList (fun h' kp => ?_) (by simp only [List.size_toArray] <;> omega)
  have I1 : Inv X pins σ H { s with heap := h' } := I.kept (t' := s.toks) kp
  have I2 : Inv X pins σ (upd H h'.objs.size (.tup ys)) { s with heap := h'.push { cls := .type "tuple", data := .seq its.toArray } } :=
   I1.laid (t' := s.toks) (fun b o e => Heap.get?_push_of_some _ e) (Nat.le_refl _) (show Qp X.prog X.w _ _ _ (.tup ys) from ⟨hz, its, r', IsTup.new _ _⟩)
  exact ⟨.ref h'.objs.size, _, I2, rfl, q _ (I1.hok.fresh (Nat.le_refl _))⟩
 ·obtain ⟨its, r', pl, hz⟩ := I.tuple hq
  exact call_tuple_same pl ⟨.ref p, H, I, rfl, q⟩
noncomputable def tyV (K : PySem.W.Frag) (T : String) (x : V) (H : Hp) : Prop := match x with
 | .str _ => T = "str"
 | .int _ => T = "int"
 | .ref p => (T = "list" ∧ ∃ xs, SqL K H p xs) ∨ (T = "tuple" ∧ ∃ o, K.lookup p = some o ∧ o.cls = .type "tuple" ∧ o.dict = none) ∨
   (T = "dict" ∧ ((∃ kvs, H p = some (.dK kvs)) ∨ ∃ kvs, H p = some (.dT kvs))) ∨ (T = "set" ∧ ∃ S n, H p = some (.set S n))
 | _ => False
theorem Fc {pins : List (Addr × Obj)} {σ : St} {H : Hp} {s : Shared} {T : String} {x : V} {v : Value} (I : Inv X pins σ H s) (r : RelV x v) (ty : tyV X.K T x H) :
  s.TypeIs v T ∧ ∀ a, v = .ref a → ∃ ob, s.heap.get? a = some ob ∧ ob.dict = none := by
 cases x with
 | str z =>
  obtain ⟨t, rfl⟩ := r
  cases (show T = "str" from ty)
  exact ⟨typeIs_str s z t, fun _ e => nomatch e⟩
 | int i =>
  obtain ⟨t, rfl⟩ := r
  cases (show T = "int" from ty)
  exact ⟨typeIs_int s i t, fun _ e => nomatch e⟩
 | ref p =>
  cases r
  rcases ty with ⟨rfl, xs, hq⟩ | ⟨rfl, o, hk, hc, hd⟩ | ⟨rfl, hk⟩ | ⟨rfl, S, n, hk⟩
  ·obtain ⟨its, _, pl, _⟩ := I.list hq
   refine ⟨pl.isList.typeIs, fun a e => ?_⟩
   cases e
   obtain ⟨o, n, e, c, hd, _⟩ := pl
   exact ⟨o, e, hd⟩
  ·refine ⟨⟨o, I.kIn p o hk, hc⟩, fun a e => ?_⟩
   cases e
   exact ⟨o, I.kIn _ o hk, hd⟩
  ·have z : ∃ o, s.heap.get? p = some o ∧ o.ExactDict := by
    rcases hk with ⟨kvs, hk⟩ | ⟨kvs, hk⟩
    ·obtain ⟨_, _, _, _, o, _, _, e, ex, _⟩ := I.hok p _ hk
     exact ⟨o, e, ex⟩
    ·obtain ⟨_, _, _, _, o, _, _, e, ex, _⟩ := I.hok p _ hk
     exact ⟨o, e, ex⟩
   obtain ⟨o, e, ex⟩ := z
   refine ⟨⟨o, e, ex.1⟩, fun a e2 => ?_⟩
   cases e2
   exact ⟨o, e, ex.2.1⟩
  ·obtain ⟨o, _, _, _, e, ex, _⟩ := I.hok p _ hk
   refine ⟨⟨o, e, ex.1⟩, fun a e2 => ?_⟩
   cases e2
   exact ⟨o, e, ex.2.1⟩
 | _ => exact False.elim ty
noncomputable def Zca (K : PySem.W.Frag) (T : String) (r : V → List V → Hp → VK → Prop) (to : TE) : TE := fun σ H Q => to σ H fun x H1 => tyV K T x H1 ∧ r x [] H1 Q
noncomputable def tBM (K : PySem.W.Frag) (T : String) (r : V → List V → Hp → VK → Prop) (to : TE) (t : TA) : TE := fun σ H Q => to σ H fun x H1 => tyV K T x H1 ∧ t σ H1 fun xs H2 => r x xs H2 Q
variable {o e : Expr} {es : List Expr} {to : TE} {t : TA} {name : Str} {apos cpos : Pos} {T id : String} {r : V → List V → Hp → VK → Prop}
theorem PY (pa : PlainAttrs T) (slot : Slot T name id) (hty : typeOf (.builtin id) = pure (.type "method_descriptor")) (hm : MtR X id r) (ho : PE X o to)
  (hbase : attributeBase o name X.env (eval o X.env) = eval o X.env := by rfl) (hline : (apos.endLine == cpos.line) = true := by rfl) : PE X (.Call (.Attribute o name apos) [] [] cpos) (Zca X.K T r to) := by
 intro pins s σ H Q I h
 refine wpAny_Call_method0_late hbase hline (thn (ho pins s σ H _ I h) fun v s1 ⟨x, H1, I1, r1, ty, q1⟩ => ?_)
 obtain ⟨h1, h2⟩ := Fc I1 r1 ty
 exact ⟨T, id, pa, slot, hty, h1, h2, Calls.callWith_builtin rfl (PySem.evalArgs_none (hm pins s1 σ H1 x [] v [] Q I1 r1 .nil q1))⟩
theorem Mf (pa : PlainAttrs T) (slot : Slot T name id) (hty : typeOf (.builtin id) = pure (.type "method_descriptor")) (hm : MtR X id r) (ho : PE X o to) (ha : PA X (e :: es) t)
  (hbase : attributeBase o name X.env (eval o X.env) = eval o X.env := by rfl)
  (hfew : ((backTo cpos (starEach (e :: es) X.env)).all (fun x => !x.1) && (backToKw cpos (keywordEach [] X.env)).all (fun x => x.1.isSome)
   && decide ((e :: es).length + ([] : List Keyword).length + (if ([] : List Keyword).isEmpty then 0 else 1) < 30)) = true := by rfl)
  (hline : (apos.endLine == cpos.line) = true := by rfl) (hs : starEach (e :: es) X.env = (false, eval e X.env) :: starEach es X.env := by rfl) (hplain : (backTo cpos (starEach es X.env)).any (·.1) = false := by rfl) :
  PE X (.Call (.Attribute o name apos) (e :: es) [] cpos) (tBM X.K T r to t) := by
 intro pins s σ H Q I h
 refine wpAny_Call_method_late hbase hfew hline rfl (thn (ho pins s σ H _ I h) fun v s1 ⟨x, H1, I1, r1, ty, q1⟩ => ?_)
 obtain ⟨h1, h2⟩ := Fc I1 r1 ty
 refine ⟨T, id, pa, slot, hty, h1, h2, ?_⟩
 have hA := ha cpos pins s1 σ H1 _ I1 q1
 rw [hs] at hA ⊢
 refine Calls.callWith_builtin (by show (false || (backTo cpos (starEach es X.env)).any (·.1)) = false; rw [hplain] <;> rfl) (Calls.evalArgs_plain ?_)
 exact thn hA fun us s2 ⟨vs, H2, I2, r2, q2⟩ => hm pins s2 σ H2 x vs v us Q I2 r1 r2 q2
end
end L2
namespace L2
open PySem PySem.Spec PyProof.Rows
noncomputable def MtM (X : Cx) (id : String) (r : V → List V → Hp → VK → Prop) : Prop :=
 ∀ (pins : List (Addr × Obj)) (s : Shared) (σ : St) (H : Hp) (x : V) (xs : List V) (v : Value) (us : List Value) (Q : VK), Inv X pins σ H s → RelV x v → Vals xs us → r x xs H Q →
  wpAny (model X.prog X.w) X.A (call (.builtin id) (v :: us)) (EP X pins σ Q) X.xe s
theorem Vals.one : ∀ {x : V} {us : List Value}, Vals [x] us → ∃ u, us = [u] ∧ RelV x u
 | _, _, .cons r .nil => ⟨_, rfl, r⟩
theorem Vals.two : ∀ {x y : V} {us : List Value}, Vals [x, y] us → ∃ u v, us = [u, v] ∧ RelV x u ∧ RelV y v
 | _, _, _, .cons r (.cons q .nil) => ⟨_, _, rfl, r, q⟩
theorem Vals.zero : ∀ {us : List Value}, Vals [] us → us = []
 | _, .nil => rfl
theorem Vals.dropLast {xs : List V} {us : List Value} (h : Vals xs us) : Vals xs.dropLast us.dropLast := by
 induction h with
 | nil => exact .nil
 | cons r t ih =>
  cases t with
  | nil => exact .nil
  | cons q t' => exact .cons r ih
theorem Vals.reverse {xs : List V} {us : List Value} (h : Vals xs us) : Vals xs.reverse us.reverse := by
 induction h with
 | nil => exact .nil
 | cons r t ih => rw [List.reverse_cons, List.reverse_cons]; exact Vals.append ih (.cons r .nil)
section
variable {X : Cx} {pins : List (Addr × Obj)} {σ : St} {H : Hp} {s : Shared} {l b : Addr} {xs ys zs : List V}
theorem Inv.TN {its its' : List Value} {n : Nat} {f : Array Value → Array Value} {t' : Nat} (I : Inv X pins σ H s) (hH : H l = some (.lst xs))
  (e : s.heap.get? l = some { cls := .type "list", data := .seq its.toArray n }) (hf : f its.toArray = its'.toArray) (hv : Vals ys its') (hz : ys.length ≤ sizeLine) :
  Inv X pins σ (upd H l (.lst ys)) { s with heap := s.heap.update l (Obj.mapSeq f), toks := t' } := by
 have q := PySem.IsL.update e f
 rw [hf] at q
 refine I.write (x := l) (e := l) (by rw [hH]; exact trivial) (.inl rfl) (fun b' u hb hu => (Heap.get?_update_other s.heap (Obj.mapSeq f) (Ne.symm hb)).trans hu) ⟨_, q⟩ ?_
 exact ⟨hz, its', _, hv, q⟩
theorem Inv.fresh (I : Inv X pins σ H s) : H s.heap.objs.size = none := I.hok.fresh (Nat.le_refl _)
theorem Inv.ZaX (I : Inv X pins σ H s) (hH : H l = some (.lst xs)) : xs.length ≤ sizeLine ∧ ∃ (its : List Value) (n : Nat), Vals xs its ∧ xs.length = its.length ∧ s.heap.get? l = some { cls := .type "list", data := .seq its.toArray n } := by
 obtain ⟨z, its, n, r, e⟩ := I.hok l _ hH
 exact ⟨z, its, n, r, r.length, e⟩
end
section
variable {X : Cx}
noncomputable def HN : V → List V → Hp → VK → Prop := fun x vs H Q => ∃ l xs y, x = .ref l ∧ vs = [y] ∧ H l = some (.lst xs) ∧ xs.length < sizeLine ∧ Q .non (upd H l (.lst (xs ++ [y])))
theorem Kd : MtM X "list.append" HN := by
 intro pins s σ H x vs v us Q I rx rv h
 obtain ⟨l, xs, y, rfl, rfl, hH, hz, q⟩ := h
 cases rx
 obtain ⟨u, rfl, ru⟩ := rv.one
 obtain ⟨z, its, n, r, hl, e⟩ := I.ZaX hH
 refine call_meets F.slot_list_append ⟨_, e, rfl⟩ F.entry_list_append (F.args_list_append_2 _ _) (PySem.list_append l its.toArray n u (by rw [List.size_toArray]; omega)) ⟨e, ?_⟩
 refine ⟨.non, _, I.TN (its' := its ++ [u]) hH e (by simp) (r.append (.cons ru .nil)) ?_, rfl, q⟩
 rw [List.length_append, List.length_singleton]
 omega
noncomputable def SR : V → List V → Hp → VK → Prop := fun x vs H Q => ∃ l b xs zs, x = .ref l ∧ vs = [.ref b] ∧ H l = some (.lst xs) ∧ H b = some (.lst zs) ∧ xs.length + zs.length ≤ sizeLine ∧ Q .non (upd H l (.lst (xs ++ zs)))
noncomputable def Zcl : V → List V → Hp → VK → Prop := fun x vs H Q => ∃ l xs y, x = .ref l ∧ vs = [] ∧ H l = some (.lst xs) ∧ xs[xs.length - 1]? = some y ∧ Q y (upd H l (.lst xs.dropLast))
noncomputable def T4 : V → List V → Hp → VK → Prop := fun x vs H Q => ∃ l xs i k y, x = .ref l ∧ vs = [.int i] ∧ H l = some (.lst xs) ∧ -(2 ^ 63) ≤ i ∧ i < 2 ^ 63 ∧ seqIndex? i xs.length = some k ∧ xs[k]? = some y ∧ Q y (upd H l (.lst (xs.eraseIdx k)))
noncomputable def Cv : V → List V → Hp → VK → Prop := fun x vs H Q => ∃ l xs, x = .ref l ∧ vs = [] ∧ H l = some (.lst xs) ∧ Q .non (upd H l (.lst xs.reverse))
theorem Ug : MtM X "list.reverse" Cv := by
 intro pins s σ H x vs v us Q I rx rv h
 obtain ⟨l, xs, rfl, rfl, hH, q⟩ := h
 cases rx
 have hus := rv.zero
 subst hus
 obtain ⟨z, its, n, r, hl, e⟩ := I.ZaX hH
 refine call_meets F.slot_list_reverse ⟨_, e, rfl⟩ F.entry_list_reverse (F.args_list_reverse_1 _) (AutoSeq1.list_reverse_list_0 l its.toArray n (by rw [List.size_toArray]; omega)) ⟨e, ?_⟩
 refine ⟨.non, _, I.TN (its' := its.reverse) hH e (by simp) r.reverse ?_, rfl, q⟩
 rw [List.length_reverse]
 omega
noncomputable def ZaH : V → List V → Hp → VK → Prop := fun x vs H Q => ∃ l xs, x = .ref l ∧ vs = [] ∧ H l = some (.lst xs) ∧ Q .non (upd H l (.lst []))
noncomputable def Zcy : R2 := fun x y H Q => ∃ l b xs zs, x = .ref l ∧ y = .ref b ∧ H l = some (.lst xs) ∧ H b = some (.lst zs) ∧ xs.length + zs.length ≤ sizeLine ∧ ∀ p, H p = none → Q (.ref p) (upd H p (.lst (xs ++ zs)))
noncomputable def ZcT : R2 := fun x y H Q => ∃ l k xs, x = .ref l ∧ y = .int k ∧ H l = some (.lst xs) ∧ -(2 ^ 63) ≤ k ∧ k < 2 ^ 63 ∧ xs.length * k.toNat ≤ sizeLine ∧
 ∀ p, H p = none → Q (.ref p) (upd H p (.lst (List.replicate k.toNat xs).flatten))
end
section
variable {prog : Program} {w : World} {A : Around} {E : Value → Shared → Prop} {s : Shared}
set_option maxRecDepth 100000 in
end
section
variable {X : Cx}
end
end L2
namespace L2
open PySem PySem.Spec PyProof.Rows
section
variable {κ : Type} [DecidableEq κ]
noncomputable def V3 (kvs : List (κ × V)) (k : κ) : Option V := (kvs.find? fun kv => decide (kv.1 = k)).map (·.2)
noncomputable def putK (kvs : List (κ × V)) (k : κ) (v : V) : List (κ × V) :=
 if (kvs.any fun kv => decide (kv.1 = k)) = true then kvs.map (fun kv => if kv.1 = k then (kv.1, v) else kv) else kvs ++ [(k, v)]
noncomputable def Bm (kvs : List (κ × V)) (k : κ) : List (κ × V) := kvs.filter fun kv => decide (kv.1 ≠ k)
theorem YD {p : κ × V} {r : List (κ × V)} {k : κ} (e : p.1 = k) : V3 (p :: r) k = some p.2 := by simp [V3, List.find?_cons, e]
theorem YH {p : κ × V} {r : List (κ × V)} {k : κ} (e : ¬ p.1 = k) : V3 (p :: r) k = V3 r k := by simp [V3, List.find?_cons, e]
theorem Wy (k : κ) : ∀ kvs : List (κ × V), (kvs.any fun kv => decide (kv.1 = k)) = (V3 kvs k).isSome
 | [] => rfl
 | p :: r => by
  rw [List.any_cons]
  by_cases e : p.1 = k
  ·simp only [YD e, decide_eq_true e, Bool.true_or, Option.isSome_some]
  ·rw [YH e, decide_eq_false e, Bool.false_or]; exact Wy k r
theorem L3.Gy {o : Option V} {u : Option Value} (r : L3 o u) : o.isSome = u.isSome := by
 cases o with
 | none => cases u with
  | none => rfl
  | some _ => exact (show False from r).elim
 | some _ => cases u with
  | none => exact (show False from r).elim
  | some _ => rfl
theorem KV.val {kvs : List (κ × V)} {vs : List (κ × Value)} (r : KV kvs vs) (k : κ) : L3 (V3 kvs k) (valueAt vs k) := by
 unfold KV at r
 induction r with
 | nil => exact True.intro
 | @cons p q ps qs h t ih =>
  obtain ⟨h1, h2⟩ := h
  by_cases e : p.1 = k
  ·have e' : q.1 = k := h1.symm.trans e
   have b : valueAt (q :: qs) k = some q.2 := by simp [valueAt, List.find?_cons, e']
   rw [YD e, b]; exact h2
  ·have e' : ¬ q.1 = k := fun z => e (h1.trans z)
   have b : valueAt (q :: qs) k = valueAt qs k := by simp [valueAt, List.find?_cons, e']
   rw [YH e, b]; exact ih
theorem KV.any {kvs : List (κ × V)} {vs : List (κ × Value)} (r : KV kvs vs) (k : κ) : (kvs.any fun kv => decide (kv.1 = k)) = vs.any fun kv => decide (kv.1 = k) := by
 unfold KV at r
 induction r with
 | nil => rfl
 | cons h t ih => rw [List.any_cons, List.any_cons, ih, h.1]
theorem KV.FX {kvs : List (κ × V)} {vs : List (κ × Value)} (r : KV kvs vs) (k : κ) {y : V} {u : Value} (ry : RelV y u) :
  KV (kvs.map fun kv => if kv.1 = k then (kv.1, y) else kv) (vs.map fun kv => if kv.1 = k then (kv.1, u) else kv) := by
 unfold KV at r ⊢
 induction r with
 | nil => exact .nil
 | @cons p q ps qs h t ih =>
  rw [List.map_cons, List.map_cons]
  refine .cons ?_ ih
  obtain ⟨h1, h2⟩ := h
  by_cases e : p.1 = k
  ·rw [if_pos e, if_pos (h1.symm.trans e)]; exact ⟨h1, ry⟩
  ·rw [if_neg e, if_neg (fun z => e (h1.trans z))]; exact ⟨h1, h2⟩
theorem KV.put {kvs : List (κ × V)} {vs : List (κ × Value)} (r : KV kvs vs) (k : κ) {y : V} {u : Value} (ry : RelV y u) : KV (putK kvs k y) (stored vs k u) := by
 unfold putK stored
 rw [r.any k]
 by_cases e : (vs.any fun kv => decide (kv.1 = k)) = true
 ·rw [if_pos e, if_pos e]; exact r.FX k ry
 ·rw [if_neg e, if_neg e]; exact Paired.snoc r ⟨rfl, ry⟩
theorem KV.drop {kvs : List (κ × V)} {vs : List (κ × Value)} (r : KV kvs vs) (k : κ) : KV (Bm kvs k) (without vs k) := by
 unfold KV at r ⊢
 unfold Bm without
 induction r with
 | nil => exact .nil
 | @cons p q ps qs h t ih =>
  obtain ⟨h1, h2⟩ := h
  rw [List.filter_cons, List.filter_cons]
  by_cases e : p.1 = k
  ·have a : ¬ decide (p.1 ≠ k) = true := by simp [e]
   have b : ¬ decide (q.1 ≠ k) = true := by simp [h1.symm.trans e]
   rw [if_neg a, if_neg b]; exact ih
  ·have e' : ¬ q.1 = k := fun z => e (h1.trans z)
   have a : decide (p.1 ≠ k) = true := by simp [e]
   have b : decide (q.1 ≠ k) = true := by simp [e']
   rw [if_pos a, if_pos b]; exact .cons ⟨h1, h2⟩ ih
theorem KV.length {kvs : List (κ × V)} {vs : List (κ × Value)} (r : KV kvs vs) : kvs.length = vs.length := Paired.length r
end
noncomputable abbrev KT (H : Hp) : List (List Key × V) → List (List Key × Addr × Value) → Prop := Paired fun p q => p.1 = q.1 ∧ H q.2.1 = some (.tup (p.1.map kV)) ∧ RelV p.2 q.2.2
theorem KT.val {H : Hp} {kvs : List (List Key × V)} {xs : List (List Key × Addr × Value)} (r : KT H kvs xs) (k : List Key) : L3 (V3 kvs k) ((atKey xs k).map (·.2)) := by
 induction r with
 | nil => exact True.intro
 | @cons p q ps qs h t ih =>
  obtain ⟨h1, _, h2⟩ := h
  by_cases e : p.1 = k
  ·have e' : q.1 = k := h1.symm.trans e
   have b : atKey (q :: qs) k = some q.2 := by simp [atKey, List.find?_cons, e']
   rw [YD e, b]; exact h2
  ·have e' : ¬ q.1 = k := fun z => e (h1.trans z)
   have b : atKey (q :: qs) k = atKey qs k := by simp [atKey, List.find?_cons, e']
   rw [YH e, b]; exact ih
theorem KT.FX {H : Hp} {kvs : List (List Key × V)} {xs : List (List Key × Addr × Value)} (r : KT H kvs xs) (k : List Key) {y : V} {u : Value} (ry : RelV y u) :
  KT H (kvs.map fun kv => if kv.1 = k then (kv.1, y) else kv) (xs.map (putAt k u)) := by
 induction r with
 | nil => exact .nil
 | @cons p q ps qs h t ih =>
  rw [List.map_cons, List.map_cons]
  refine .cons ?_ ih
  obtain ⟨h1, h2, h3⟩ := h
  unfold putAt
  by_cases e : p.1 = k
  ·rw [if_pos e, if_pos (h1.symm.trans e)]; exact ⟨h1, h2, ry⟩
  ·rw [if_neg e, if_neg (fun z => e (h1.trans z))]; exact ⟨h1, h2, h3⟩
theorem KT.put {H : Hp} {kvs : List (List Key × V)} {xs : List (List Key × Addr × Value)} (r : KT H kvs xs) (k : List Key) {b : Addr} {y : V} {u : Value} (hb : H b = some (.tup (k.map kV))) (ry : RelV y u) :
  KT H (putK kvs k y) (storedH xs k b u) := by
 have e : (kvs.any fun kv => decide (kv.1 = k)) = (atKey xs k).isSome := by
  rw [Wy, (r.val k).Gy, Option.isSome_map]
 unfold putK storedH
 rw [e]
 by_cases q : (atKey xs k).isSome = true
 ·rw [if_pos q, if_pos q]; exact r.FX k ry
 ·rw [if_neg q, if_neg q]; exact Paired.snoc r ⟨rfl, hb, ry⟩
section
variable {P : Program} {w : World} {H : Hp} {h : Heap} {a : Addr}
end
noncomputable def BP (H : Hp) (a : Addr) (y : V) (r : Option V) : Prop :=
 (∃ kvs k, Rd H a (.dK kvs) ∧ y = kV k ∧ r = V3 kvs k) ∨ ∃ kvs k b, Rd H a (.dT kvs) ∧ y = .ref b ∧ H b = some (.tup (k.map kV)) ∧ r = V3 kvs k
noncomputable def L7 (H : Hp) (a : Addr) (y v : V) (H' : Hp) : Prop :=
 (∃ kvs k, H a = some (.dK kvs) ∧ y = kV k ∧ kvs.length < sizeLine ∧ H' = upd H a (.dK (putK kvs k v))) ∨
 ∃ kvs k b, H a = some (.dT kvs) ∧ y = .ref b ∧ H b = some (.tup (k.map kV)) ∧ kvs.length < sizeLine ∧ H' = upd H a (.dT (putK kvs k v))
theorem BP.k {H : Hp} {a : Addr} {kvs : List (Key × V)} {k : Key} (e : H a = some (.dK kvs)) : BP H a (kV k) (V3 kvs k) := .inl ⟨kvs, k, .inl e, rfl, rfl⟩
theorem BP.t {H : Hp} {a b : Addr} {kvs : List (List Key × V)} {k : List Key} (e : H a = some (.dT kvs)) (eb : H b = some (.tup (k.map kV))) : BP H a (.ref b) (V3 kvs k) := .inr ⟨kvs, k, b, .inl e, rfl, eb, rfl⟩
theorem L7.k {H : Hp} {a : Addr} {kvs : List (Key × V)} {k : Key} {v : V} (e : H a = some (.dK kvs)) (hl : kvs.length < sizeLine) : L7 H a (kV k) v (upd H a (.dK (putK kvs k v))) := .inl ⟨kvs, k, e, rfl, hl, rfl⟩
theorem L7.t {H : Hp} {a b : Addr} {kvs : List (List Key × V)} {k : List Key} {v : V} (e : H a = some (.dT kvs)) (eb : H b = some (.tup (k.map kV))) (hl : kvs.length < sizeLine) :
  L7 H a (.ref b) v (upd H a (.dT (putK kvs k v))) := .inr ⟨kvs, k, b, e, rfl, eb, hl, rfl⟩
section
variable {X : Cx} {pins : List (Addr × Obj)} {σ : St} {H : Hp} {s : Shared} {a : Addr} {y v : V} {u r : Value} {o : Option V} {A : Around} {E : Value → Shared → Prop}
end
section
variable {X : Cx} {pins : List (Addr × Obj)} {σ : St} {H : Hp} {s : Shared} {a : Addr} {kvs : List (Key × V)} {k : Key} {u : Value} {A : Around} {E : Value → Shared → Prop}
end
noncomputable def Zcz (i : Expr) : Prop := ∀ ov iv, subscripted i false ov iv = operate [ov, iv] (getItem ov iv)
noncomputable def Za9 (td ty : TE) : TE := fun σ H Q => td σ H fun x H1 => ty σ H1 fun y H2 => ∃ a v, x = .ref a ∧ BP H2 a y (some v) ∧ Q v H2
noncomputable def ZcL (ty td : TE) : TE := fun σ H Q => ty σ H fun y H1 => td σ H1 fun x H2 => ∃ a o, x = .ref a ∧ BP H2 a y o ∧ Q (.bl o.isSome) H2
noncomputable def RU (ty td : TE) : TE := fun σ H Q => ty σ H fun y H1 => td σ H1 fun x H2 => ∃ a o, x = .ref a ∧ BP H2 a y o ∧ Q (.bl (!o.isSome)) H2
noncomputable def Zb0 (td ty tv : TE) : TS := fun D σ H => tv σ H fun v H1 => td σ H1 fun x H2 => ty σ H2 fun y H3 => ∃ a H4, x = .ref a ∧ L7 H3 a y v H4 ∧ D.nx σ H4
noncomputable def ZbJ (td ty tv : TE) (rd : V → V → Hp → VK → Prop) : TS := fun D σ H => td σ H fun x H1 => ty σ H1 fun y H2 => ∃ a v, x = .ref a ∧ BP H2 a y (some v) ∧
 tv σ H2 fun y2 H3 => rd v y2 H3 fun z H4 => ∃ H5, L7 H4 a y z H5 ∧ D.nx σ H5
noncomputable def Za7 (td ty : TE) : TS := fun D σ H => td σ H fun x H1 => ty σ H1 fun y H2 => ∃ a kvs k, x = .ref a ∧ H2 a = some (.dK kvs) ∧ y = kV k ∧ (V3 kvs k).isSome = true ∧ D.nx σ (upd H2 a (.dK (Bm kvs k)))
section
variable {X : Cx} {o i e value : Expr} {pos pos' tpos : Pos} {td ty tv : TE}
end
noncomputable def ZaP : TE := fun _ H Q => ∀ p, H p = none → Q (.ref p) (upd H p (.dK []))
noncomputable def ZaF : TE := fun _ H Q => ∀ p, H p = none → Q (.ref p) (upd H p (.dT []))
section
variable {X : Cx} {pos : Pos}
end
noncomputable def Wx : List (TE × TE) → St → Hp → (List (V × V) → Hp → Prop) → Prop
 | [], _, H, Q => Q [] H
 | (tk, tv) :: r, σ, H, Q => tk σ H fun x H1 => tv σ H1 fun y H2 => Wx r σ H2 fun ps H3 => Q ((x, y) :: ps) H3
noncomputable abbrev VV : List (V × V) → List (Value × Value) → Prop := Paired fun p q => RelV p.1 q.1 ∧ RelV p.2 q.2
noncomputable def PPs (X : Cx) (pos : Pos) (keys : List (Option Expr)) (values : List Expr) (trs : List (TE × TE)) : Prop :=
 ∀ (pins : List (Addr × Obj)) (s : Shared) (σ : St) (H : Hp) (Q : List (V × V) → Hp → Prop), Inv X pins σ H s → Wx trs σ H Q →
  wpAny (model X.prog X.w) X.A (evalPairs (pairTrees keys values X.env pos)) (fun vs s' => ∃ ps H', Inv X pins σ H' s' ∧ VV ps vs ∧ Q ps H') X.xe s
noncomputable def P2 (kvs more : List (Key × V)) : List (Key × V) := more.foldl (fun acc kv => putK acc kv.1 kv.2) kvs
noncomputable def Zbw (trs : List (TE × TE)) : TE := fun σ H Q => ∀ p, H p = none → Wx trs σ (upd H p (.dK [])) fun ps H2 => H2 p = some (.dK []) ∧ ∃ kvs : List (Key × V), ps = kvs.map (fun kv => (kV kv.1, kv.2)) ∧ kvs.length ≤ 15 ∧ Q (.ref p) (upd H2 p (.dK (P2 [] kvs)))
structure M1 (X : Cx) (o : Expr) (m : Str) (apos : Pos) (e : Expr) (cpos : Pos) : Prop where
 base : attributeBase o m X.env (eval o X.env) = eval o X.env
 few : ((backTo cpos (starEach [e] X.env)).all (fun x => !x.1) && (backToKw cpos (keywordEach [] X.env)).all (fun x => x.1.isSome)
  && decide (([e] : List Expr).length + ([] : List Keyword).length + (if ([] : List Keyword).isEmpty then 0 else 1) < 30)) = true
 line : (apos.endLine == cpos.line) = true
 trees : backTo cpos (starEach [e] X.env) = [(false, eval e X.env)]
structure M2 (X : Cx) (o : Expr) (m : Str) (apos : Pos) (e f : Expr) (cpos : Pos) : Prop where
 base : attributeBase o m X.env (eval o X.env) = eval o X.env
 few : ((backTo cpos (starEach [e, f] X.env)).all (fun x => !x.1) && (backToKw cpos (keywordEach [] X.env)).all (fun x => x.1.isSome)
  && decide (([e, f] : List Expr).length + ([] : List Keyword).length + (if ([] : List Keyword).isEmpty then 0 else 1) < 30)) = true
 line : (apos.endLine == cpos.line) = true
 trees : backTo cpos (starEach [e, f] X.env) = [(false, eval e X.env), (false, eval f X.env)]
noncomputable def IsD (H : Hp) (a : Addr) : Prop := (∃ kvs, Rd H a (.dK kvs)) ∨ ∃ kvs, Rd H a (.dT kvs)
section
variable {X : Cx} {pins : List (Addr × Obj)} {σ : St} {H : Hp} {s : Shared} {a : Addr} {y d : V} {u r : Value} {o : Option V} {A : Around} {E : Value → Shared → Prop}
end
noncomputable def T1 (td ty : TE) : TE := fun σ H Q => td σ H fun x H1 => ∃ a, x = .ref a ∧ IsD H1 a ∧ ty σ H1 fun y H2 => ∃ o, BP H2 a y o ∧ Q (o.getD .non) H2
noncomputable def Zac (td ty tx : TE) : TE := fun σ H Q => td σ H fun x H1 => ∃ a, x = .ref a ∧ IsD H1 a ∧ ty σ H1 fun y H2 => tx σ H2 fun z H3 => ∃ o, BP H3 a y o ∧ Q (o.getD z) H3
noncomputable def TY (td ty : TE) : TE := fun σ H Q => td σ H fun x H1 => ∃ a, x = .ref a ∧ IsD H1 a ∧ ty σ H1 fun y H2 => ∃ kvs k v, H2 a = some (.dK kvs) ∧ y = kV k ∧ V3 kvs k = some v ∧ Q v (upd H2 a (.dK (Bm kvs k)))
noncomputable def TZ (td ty tx : TE) : TE := fun σ H Q => td σ H fun x H1 => ∃ a, x = .ref a ∧ IsD H1 a ∧ ty σ H1 fun y H2 => tx σ H2 fun z H3 => ∃ kvs k, H3 a = some (.dK kvs) ∧ y = kV k ∧
 (∀ v, V3 kvs k = some v → Q v (upd H3 a (.dK (Bm kvs k)))) ∧ (V3 kvs k = none → Q z H3)
section
variable {X : Cx} {o e f : Expr} {apos cpos : Pos} {td ty tx : TE}
end
section
variable {X : Cx} {pins : List (Addr × Obj)} {σ : St} {H : Hp} {s : Shared} {a : Addr} {kvs : List (Key × V)} {A : Around} {E : Value → Shared → Prop}
end
section
variable {X : Cx} {pins : List (Addr × Obj)} {σ : St} {H : Hp} {s : Shared} {a : Addr} {y : V} {u : Value} {A : Around} {E : Value → Shared → Prop}
end
end L2
namespace Att
open PySem PySem.W PySem.Calls PyProof.Rows
theorem VF {P : Params} {h : Heap} : ∀ (ns : List Int) (vs : List Value), WellAll P h vs (ns.map WData.int) → IntsAre vs ns := by
 intro ns
 induction ns with
 | nil =>
  intro vs w
  rw [List.map_nil] at w
  cases w
  exact .nil
 | cons n ns ih =>
  intro vs w
  rw [List.map_cons] at w
  cases w with
  | cons a b =>
   cases a
   exact .cons _ _ (ih _ b)
theorem GJ {l : OpenLaw} {n : Nat} (hn : l.most = some n) {P : Params} {h : Heap} {args : List WData} {vals : List Value}
  (hpre : l.row.toRowW.claim.pre args = true) (hwl : WellAll P h vals args) :
  ∃ a vs ns, vals = [Value.ref a] ∧ args = [WData.list (ns.map WData.int)] ∧ h.get? a = some { cls := .type "list", data := .seq vs.toArray } ∧ IntsAre vs ns ∧ ns.length ≤ n := by
 have hsh : WShape.hasAll [] args [.list .int] = true := (pre_splitW hpre).1
 have hc : l.pre.holds [] { args := args } = true := (pre_splitW hpre).2
 obtain ⟨d, r, rfl, h1, h2⟩ := hasAllW_cons hsh
 obtain rfl := hasAllW_nil h2
 obtain ⟨xs, rfl, h3⟩ := hasW_list h1
 obtain ⟨ns, rfl⟩ := items_int h3
 have hlen : ns.length ≤ n := by
  unfold OpenLaw.pre at hc
  have h4 : (WTm.not (.lt (.lit (.int (n : Int))) (.len (.arg 0)))).holds [] { args := [.list (ns.map .int)] } = true := by
   have h4 := (holds_andW hc).1
   rw [hn] at h4
   exact h4
  have h5 := condW_of h4 (w_not (w_lt w_lit (w_len_list (w_arg rfl))))
  rw [List.length_map] at h5
  refine Nat.le_of_not_lt fun q => ?_
  have q' : (n : Int) < ((ns.length : Nat) : Int) := by omega
  first
   | (rw [decide_eq_true q'] at h5; exact absurd h5 (by decide))
   | (simp at h5; omega)
 cases hwl with
 | cons w1 w2 =>
  cases w2
  cases w1 with
  | list ho hall => exact ⟨_, _, ns, rfl, rfl, ho, VF ns _ hall, hlen⟩
theorem Bb (l : OpenLaw) (args : List WData) : l.row.toRowW.claim.post args (.bool true) args = true :=
 postW_of (r := l.row.toRowW) (X := (true == true))
  (show WShape.has [] (.bool true) .bool = true by first | rfl | decide | simp [WShape.has, WShape.arms, WShape.armsAll])
  (show (WTm.eq .res (.lit (.bool true))).value [] { args := args, res := some (.bool true), after := args } = some (.bool (true == true)) from w_eq_bool (w_res rfl) w_lit) rfl
theorem KA {l : OpenLaw} {n : Nat} {q : Program} {loose : List Str} {XP : (Str → Option Value) → Heap → Prop} {YP : World → Heap → Prop} {d : DefRec}
  (hn : l.most = some n) (hdf : d.params.defaults = [])
  (call : ∀ (w : World) (s₀ s₁ : Shared) (mg mb : Str → Option Value) (fa : Addr) (o : Obj) (pm cd doc : Value) (a : Addr) (vs : List Value) (ns : List Int),
   Ground q loose [] XP w s₀ mg mb s₁.heap → YP w s₁.heap →
   s₁.heap.get? fa = some o → o.data = .func (docDef d.name d.params d.body d.scope pm cd doc) → s₁.heap.CodeRec cd d.name → mg d.name = some (.ref fa) →
   s₁.heap.get? a = some { cls := .type "list", data := .seq vs.toArray } → IntsAre vs ns → ns.length ≤ n → s₁.gens = #[] →
   codeAny (model l.prog w) callerA (.call (.ref fa) ⟨[.ref a], []⟩) (fun r s' => r = .ok (.ret (.bool true)) ∧ OldK s₁.heap s'.heap ∧ s'.os = s₁.os ∧ AllBare s'.gens) s₁) :
  WalkO q loose XP YP l.row.toRowW d [] (fun f vs => PySem.call f vs) := by
 intro w s₀ s₁ mg mb G Y fa o pm cd doc dV kV ho hd hcd hD hmg hg args vals as hpre hlay hrd hwl hlo
 obtain rfl : dV = .none := Dflts.none hD hdf
 obtain rfl : kV = .none := Dflts.noKw hD
 obtain ⟨a, vs, ns, rfl, rfl, hobj, hints, hlen⟩ := GJ hn hpre hwl
 refine enter_call (codeAny_mono (call w s₀ s₁ mg mb fa o pm cd doc a vs ns G Y ho (fd_plain hd) hcd hmg hobj hints hlen hg) fun r s' hq => ?_)
 obtain ⟨rfl, h2, h3, h4⟩ := hq
 exact ⟨.inl ⟨.bool true, .bool true, [], rfl, fun _ => rfl, .bool true, Bb l _, fun _ => ⟨List.Pairwise.nil, fun _ hm => (nomatch hm)⟩⟩, h2, h3, h4⟩
section
variable {prog : Program} {w : World} {A : Around} {E : Value → Shared → Prop} {s : Shared} {K : Frag}
noncomputable def Zar (h : Heap) : Heap := { h with objs := #[] }
noncomputable def ledger (h : Heap) (L d : Addr) : List (Addr × Obj) := (List.range h.objs.size).filterMap fun a => if a = L ∨ a = d then none else (h.get? a).map fun o => (a, o)
end
end Att
namespace L2
open PySem PySem.Spec PyProof.Rows
theorem Kc : ∀ {vs : List Value} {ns : List Int}, IntsAre vs ns → Vals (ns.map V.int) vs
 | _, _, .nil => .nil
 | _, _, .cons n t h => .cons ⟨t, rfl⟩ (Kc h)
noncomputable def Rq (H : Hp) : Prop := ∀ b, H b = none ∨ ∃ o xs, H b = some (.frz o (.lst xs))
theorem Dr {P : Program} {w : World} {K : PySem.W.Frag} {mg mb : Str → Option Value} {CX : CXT} {k : Nat} {fa a : Addr} {fd : FuncData} {x : Str} {sp : Sp} {s₁ : Shared} {vs : List Value} {ns : List Int}
  (KX : K.In s₁.heap) (hns : s₁.heap.Ns mainGlobals mg) (hb : s₁.heap.Ns builtinsNs mb) (hbb : ∀ x : Str, x ≠ "__name__" → mb x = bootBuiltins x) (hlim : s₁.heap.NoLimit) (hg : s₁.gens = #[])
  (ha : s₁.heap.get? a = some { cls := .type "list", data := .seq vs.toArray }) (hi : IntsAre vs ns) (hl : ns.length ≤ sizeLine) (hr : J0 k callerA)
  (F : ∀ base : Heap, K.In base → base.Ns mainGlobals mg → ZX P w K mg base CX k fa fd [x] sp) (hbind : ∀ (s : Shared) (u : Value), BindsTo s fd ⟨[u], []⟩ [(x, u)])
  (hsp : ∀ H : Hp, Rq H → SqL K H a (ns.map V.int) → sp [.ref a] H (fun v _ => v = .bl true) fun _ _ _ => False)
  (hCX : ∀ H e s', CX [] H s₁ (fun _ _ _ => False) e s' → False) :
  codeAny (model P w) callerA (.call (.ref fa) ⟨[.ref a], []⟩) (fun r s' => r = .ok (.ret (.bool true)) ∧ OldK s₁.heap s'.heap ∧ s'.os = s₁.os ∧ AllBare s'.gens) s₁ := by
 have rv := Kc hi
 have lenV := hi.length
 have core : ∀ H : Hp, Rq H → SqL K H a (ns.map V.int) → HOk P w H s₁.heap → (∀ b, H b ≠ none → b = a) → (H a ≠ none → K.lookup a = none) →
   codeAny (model P w) callerA (.call (.ref fa) ⟨[.ref a], []⟩) (fun r s' => r = .ok (.ret (.bool true)) ∧ OldK s₁.heap s'.heap ∧ s'.os = s₁.os ∧ AllBare s'.gens) s₁ := by
  intro H hO hS hok hA hK
  have base_of : ∀ {b : Addr} {o : Obj}, s₁.heap.get? b = some o → H b = none → (BS s₁.heap H).get? b = some o := fun e n => D6 e n
  have noA : ∀ {b : Addr} {o : Obj} {es : Array DictEntry} {ep : Nat}, s₁.heap.get? b = some o → o.data = .dict es ep → H b = none := fun {b o es ep} e d => by
   cases q : H b with
   | none => rfl
   | some u =>
    have e' : b = a := hA b (by rw [q]; simp)
    subst e'
    rw [ha] at e; cases e
    have d' : Data.seq vs.toArray _ = Data.dict es ep := d
    cases d'
  have nsK : ∀ {b : Addr} {m : Str → Option Value}, s₁.heap.Ns b m → (BS s₁.heap H).Ns b m := fun {b m} ⟨o, es, ep, e, d, r⟩ => ⟨o, es, ep, base_of e (noA e d), d, r⟩
  have hKb : K.In (BS s₁.heap H) := fun b o e => base_of (KX b o e) (by
   cases q : H b with
   | none => rfl
   | some u =>
    have e' : b = a := hA b (by rw [q]; simp)
    subst e'
    rw [hK (by rw [q]; simp)] at e; cases e)
  have hM : Mod K mg (BS s₁.heap H) := ⟨hKb, nsK hns, ⟨mb, nsK hb, hbb⟩, let ⟨mc, h1, h2⟩ := hlim; ⟨mc, nsK h1, h2⟩⟩
  have e0 : Rw P w K mg (BS s₁.heap H) callerA [] s₁ H := ⟨rfl, hM, fun b o e => Fy e, Nat.le_of_eq (Gp _ _), trivial, fun b hb => absurd (show b ∈ ([] : List Addr) from hb) (by simp), hok, .of_eq hg⟩
  refine codeAny_mono ((F _ hKb (nsK hns)).run callerA [] s₁ H ⟨[.ref a], []⟩ [.ref a] [.ref a] _ _ hr e0 (hbind s₁ (.ref a)) (.cons rfl .nil) (hsp H hO hS)) fun r s' h => ?_
  cases r with
  | error e => exact (hCX H e s' h).elim
  | ok fl =>
   cases fl with
   | next => exact False.elim h
   | brk => exact False.elim h
   | cont => exact False.elim h
   | ret u =>
    obtain ⟨v, H', os, bare, un, hok', r', q⟩ := h
    have q' : v = .bl true := q
    subst q'
    obtain rfl : u = Value.bool true := r'
    refine ⟨rfl, OldK.of_keep fun b o e => ?_, os, bare⟩
    cases q : H b with
    | none => exact un.keep b o e q (by intro z; exact absurd (show b ∈ ([] : List Addr) from z) (by simp)) (by simp)
    | some u =>
     rcases hO b with z | ⟨ob, xs, z⟩
     ·rw [q] at z; cases z
     ·have z2 := un.frzs b ob _ z
      obtain ⟨e1, _⟩ := hok b _ z
      obtain ⟨e2, _⟩ := hok' b _ z2
      rw [e] at e1; cases e1
      exact e2
 cases hk : K.lookup a with
 | some o =>
  have e := KX a o hk
  rw [ha] at e
  cases e
  refine core (fun _ => none) (fun _ => .inl rfl) (.inr ⟨_, vs.toArray, _, hk, rfl, rfl, rfl, by rw [List.size_toArray, lenV]; exact hl, by simpa using rv⟩) (fun b u z => by have z' : (none : Option HO) = some u := z; cases z') (fun b z => absurd rfl z) fun z => absurd rfl z
 | none =>
  refine core (fun b => if b = a then some (.frz { cls := .type "list", data := .seq vs.toArray } (.lst (ns.map V.int))) else none) (fun b => ?_) (.inl (.inr ⟨{ cls := .type "list", data := .seq vs.toArray }, if_pos rfl⟩)) (fun b u z => ?_) (fun b z => ?_) fun _ => hk
  ·by_cases hb : b = a
   ·exact .inr ⟨_, _, if_pos hb⟩
   ·exact .inl (if_neg hb)
  ·by_cases hb : b = a
   ·have z' := (if_pos hb).symm.trans z
    cases z'
    subst hb
    exact ⟨ha, by rw [List.length_map]; exact hl, vs, _, rv, ha⟩
   ·have z' := (if_neg hb).symm.trans z
    cases z'
  ·by_cases hb : b = a
   ·exact hb
   ·exact absurd (if_neg hb) z
end L2
namespace L2
open PySem PySem.Spec PyProof.Rows
noncomputable abbrev KOf {K : PySem.W.Frag} {h : Heap} (_ : K.In h) : PySem.W.Frag := K
theorem LQ {l : PySem.W.OpenLaw} {n k : Nat} {q : Program} {loose : List Str} {XP : (Str → Option Value) → Heap → Prop} {YP : World → Heap → Prop} {d : DefRec} {K : Params → PySem.W.Frag} {CX : World → CXT} {sp : World → Sp} {x : Str}
  (hn : l.most = some n) (hn2 : n ≤ sizeLine) (hdf : d.params.defaults = []) (hr : J0 k callerA)
  (hY : ∀ (w : World) (h : Heap), YP w h → (K w.params).In h)
  (F : ∀ (w : World) (mg : Str → Option Value) (fa : Addr) (h : Heap), (K w.params).In h → h.Ns mainGlobals mg → mg d.name = some (.ref fa) →
   ∃ fd : FuncData, (∀ (s : Shared) (u : Value), BindsTo s fd ⟨[u], []⟩ [(x, u)]) ∧
    ∀ base : Heap, (K w.params).In base → base.Ns mainGlobals mg → ZX l.prog w (K w.params) mg base (CX w) k fa fd [x] (sp w))
  (hsp : ∀ (w : World) (H : Hp) (a : Addr) (ns : List Int), ns.length ≤ n → Rq H → SqL (K w.params) H a (ns.map V.int) → sp w [.ref a] H (fun v _ => v = .bl true) fun _ _ _ => False)
  (hCX : ∀ (w : World) (H : Hp) (s : Shared) (e : Value) (s' : Shared), CX w [] H s (fun _ _ _ => False) e s' → False) :
  PySem.W.WalkO q loose XP YP l.row.toRowW d [] (fun f vs => PySem.call f vs) := by
 refine Att.KA hn hdf fun w s₀ s₁ mg mb fa o pm cd doc a vs ns G Y ho hd hcd hmg hobj hints hlen hg => ?_
 have KX := hY w _ Y
 obtain ⟨fd, hb, hF⟩ := F w mg fa _ KX G.T.g hmg
 exact Dr KX G.T.g G.T.b G.T.builtins G.T.nolimit hg hobj hints (Nat.le_trans hlen hn2) hr hF hb (fun H hO hS => hsp w H a ns hlen hO hS) fun H e s' => hCX w H s₁ e s'
end L2
namespace L2
open PySem PySem.Spec PyProof.Rows
noncomputable def inClass (s : Stmt) (j : Nat) : Stmt := match s with
 | .ClassDef _ _ _ body _ _ _ _ _ _ _ => body.getD j (.Pass ⟨0, 0, 0, 0⟩)
 | _ => .Pass ⟨0, 0, 0, 0⟩
noncomputable def Zu (s : Stmt) : Arguments := match s with
 | .FunctionDef _ a _ _ _ _ _ _ _ _ => a
 | _ => { posonlyargs := [], args := [], vararg := none, kwonlyargs := [], kw_defaults := [], kwarg := none, defaults := [] }
noncomputable def Zn (s : Stmt) : List Stmt := match s with
 | .FunctionDef _ _ b _ _ _ _ _ _ _ => b
 | _ => []
noncomputable def Ze (s : Stmt) : Scope := match s with
 | .FunctionDef _ _ _ _ _ _ sc _ _ _ => sc
 | _ => { kind := .function, names := [], isGenerator := false, isCoroutine := false }
noncomputable abbrev CX0 : CXT := fun _ _ _ _ _ _ => False
noncomputable abbrev E0 : XK := fun _ _ _ => False
theorem Zr {X : Cx} : Passes CX0 X E0 := fun _ _ _ _ _ _ _ h => h.elim
structure Fun (K : PySem.W.Frag) (x qual : Str) (st : Stmt) (f : Addr) (fd : FuncData) : Prop where
 ex : ∃ (oc : Value) (od : Option Addr) (kV doc pm : Value) (an : Option Addr) (cdv ct : Value) (osl : Array (Option Value)),
  fd = PySem.W.fnOf x qual (Zu st) (Zn st) (Ze st) .none kV doc pm an cdv ct ∧ K.lookup f = some ⟨oc, od, .func fd, osl⟩ ∧ PySem.W.codeIn K cdv qual = true
 kp : PySem.W.keepIn K (.ref f) = true
section
variable {P : Program} {w : World} {K : PySem.W.Frag} {mg : Str → Option Value} {base : Heap}
theorem Fun.ok {x qual : Str} {st : Stmt} {f : Addr} {fd : FuncData} {N ps : List Str} {k : Nat} {sp : Sp} (F : Fun K x qual st f fd) (S : Zt N ps (Ze st)) (len : ∀ vs H Q E, sp vs H Q E → vs.length = ps.length)
  (hbody : ∀ (cdv : Value) (A : Around) (outer : List Env) (s : Shared) (H : Hp) (vs : List V) (Q : VK) (E : XK), J0 k (A.deeper (envOfC qual (Ze st) s.heap.objs.size f cdv)) → sp vs H Q E →
   ∃ t, PSs (EB CX0 P w K mg base N qual (Ze st) f cdv A outer s H E).nox (Zn st) t ∧ t { nx := fun _ H' => Q .non H', rt := Q } (start N vs) H) : ZX P w K mg base CX0 (k + 1) f fd ps sp := by
 obtain ⟨oc, od, kV, doc, pm, an, cdv, ct, osl, rfl, lk, hcd⟩ := F.ex
 refine R3 lk hcd S len fun A outer s H vs Q E hr hsp => ?_
 obtain ⟨t, h, q⟩ := hbody cdv A outer s H vs Q E hr hsp
 exact ⟨t, h.nox, q⟩
theorem Fun.binds {x qual : Str} {st : Stmt} {f : Addr} {fd : FuncData} {ps : List Str} (F : Fun K x qual st f fd)
  (h : ∀ (kV doc pm : Value) (an : Option Addr) (cdv ct : Value) (us : List Value), us.length = ps.length → bindArgs (PySem.W.fnOf x qual (Zu st) (Zn st) (Ze st) .none kV doc pm an cdv ct) ⟨us, []⟩ = pure (ps.zip us)) : Binds K fd ps [] := by
 obtain ⟨oc, od, kV, doc, pm, an, cdv, ct, osl, rfl, lk, hcd⟩ := F.ex
 exact .all (h kV doc pm an cdv ct)
theorem ZW {x qual : Str} {st : Stmt} {f : Addr} {oc : Value} {od an : Option Addr} {osl : Array (Option Value)} {kV doc pm cdv ct : Value} (l : K.lookup f = some ⟨oc, od, .func (PySem.W.fnOf x qual (Zu st) (Zn st) (Ze st) .none kV doc pm an cdv ct), osl⟩)
  (c : PySem.W.codeIn K cdv qual = true) (k : PySem.W.keepIn K (.ref f) = true) : Fun K x qual st f (PySem.W.fnOf x qual (Zu st) (Zn st) (Ze st) .none kV doc pm an cdv ct) := ⟨⟨oc, od, kV, doc, pm, an, cdv, ct, osl, rfl, l, c⟩, k⟩
end
section
variable {X : Cx}
end
noncomputable def EK (H H' : Hp) : Prop := ∀ b o, H b = some o → H' b = some o
theorem EK.refl (H : Hp) : EK H H := fun _ _ h => h
theorem EK.trans {H H1 H2 : Hp} (a : EK H H1) (b : EK H1 H2) : EK H H2 := fun c o h => b c o (a c o h)
theorem EK.free {H H' : Hp} (e : EK H H') {l : Addr} (h : H' l = Option.none) : H l = Option.none := by
 cases q : H l with
 | none => rfl
 | some o =>
  rw [e l o q] at h
  cases h
end L2
namespace DL
open PySem PySem.Spec PyProof.Rows L2
inductive DV where
 | dat (d : PyData)
 | own (a : Addr)
 | ty (n : String)
  | mix (xs : List DV)
inductive OO where
 | lst (ds : List PyData)
  | dct (ks : List (List Key))
  | dtv (kvs : List (List Key × PyData))
  | dkv (kvs : List (Key × PyData))
  | dko (kvs : List (Key × DV))
  | fdk (o : Obj) (kvs : List (Key × PyData))
  | lsv (n : Nat) (xs : List DV)
  | ext (φ : Heap → Prop)
noncomputable abbrev Mp := Addr → Option OO
noncomputable def ZE (M : Mp) (a : Addr) (o : OO) : Mp := fun b => if b = a then some o else M b
noncomputable def VA (M : Mp) (a : Addr) : Mp := fun b => if b = a then none else M b
theorem Z4 {M : Mp} {a : Addr} {o : OO} : ZE M a o a = some o := by unfold ZE; rw [if_pos rfl]
theorem ZZ {M : Mp} {a b : Addr} {o : OO} (h : b ≠ a) : ZE M a o b = M b := by unfold ZE; rw [if_neg h]
theorem UY {M : Mp} {a : Addr} {o u : OO} : ZE (ZE M a o) a u = ZE M a u := by
 funext b; unfold ZE; split <;> rfl
theorem XJ {M : Mp} {a : Addr} : VA M a a = none := by unfold VA; rw [if_pos rfl]
theorem Yr {M : Mp} {a b : Addr} (h : b ≠ a) : VA M a b = M b := by unfold VA; rw [if_neg h]
noncomputable def kD : Key → PyData
 | .inl i => .int i
 | .inr x => .str x
noncomputable def KTu (K : PySem.W.Frag) (a : Addr) (xs : List V) : Prop :=
 ∃ (o : Obj) (its : Array Value) (n : Nat), K.lookup a = some o ∧ o.cls = .type "tuple" ∧ o.data = .seq its n ∧ its.size ≤ sizeLine ∧ Vals xs its.toList
noncomputable def KLs (K : PySem.W.Frag) (a : Addr) (xs : List V) : Prop :=
 ∃ (o : Obj) (its : Array Value) (n : Nat), K.lookup a = some o ∧ o.cls = .type "list" ∧ o.dict = none ∧ o.data = .seq its n ∧ its.size ≤ sizeLine ∧ Vals xs its.toList
noncomputable def TupAt (K : PySem.W.Frag) (M : Mp) (H : Hp) (a : Addr) (xs : List V) : Prop := (M a = none ∧ Rd H a (.tup xs)) ∨ KTu K a xs
noncomputable def LstAt (K : PySem.W.Frag) (M : Mp) (H : Hp) (a : Addr) (xs : List V) : Prop := (M a = none ∧ Rd H a (.lst xs)) ∨ KLs K a xs
theorem TupAt.sq {K : PySem.W.Frag} {M : Mp} {H : Hp} {a : Addr} {xs : List V} (h : TupAt K M H a xs) : SqT K H a xs := by
 rcases h with ⟨_, h⟩ | h
 ·exact .inl h
 ·exact .inr h
theorem LstAt.sq {K : PySem.W.Frag} {M : Mp} {H : Hp} {a : Addr} {xs : List V} (h : LstAt K M H a xs) : SqL K H a xs := by
 rcases h with ⟨_, h⟩ | h
 ·exact .inl h
 ·exact .inr h
mutual
inductive Dt (K : PySem.W.Frag) (M : Mp) (H : Hp) : V → PyData → Prop
 | non : Dt K M H .non .none
 | bl (b : Bool) : Dt K M H (.bl b) (.bool b)
 | int (i : Int) : Dt K M H (.int i) (.int i)
 | str (x : Str) : Dt K M H (.str x) (.str x)
 | tup {a : Addr} {xs : List V} {ds : List PyData} : TupAt K M H a xs → Dts K M H xs ds → Dt K M H (.ref a) (.tuple ds)
 | lst {a : Addr} {xs : List V} {ds : List PyData} : LstAt K M H a xs → Dts K M H xs ds → Dt K M H (.ref a) (.list ds)
 | dK {a : Addr} {kvs : List (Key × V)} {ds : List PyData} : M a = none → H a = some (.dK kvs) → Dts K M H (kvs.map (·.2)) ds → Dt K M H (.ref a) (.dict ((kvs.map fun kv => kD kv.1).zip ds))
 | dT {a : Addr} {kvs : List (List Key × V)} {ds : List PyData} : M a = none → H a = some (.dT kvs) → Dts K M H (kvs.map (·.2)) ds → Dt K M H (.ref a) (.dict ((kvs.map fun kv => PyData.tuple (kv.1.map kD)).zip ds))
 | dX {a b : Addr} {φ : Heap → Prop} {v : V} {dk d : PyData} : M a = none → H a = some (.ext φ) → (a == sysModules) = false →
   (∀ h, φ h → ∃ o es n u, h.get? a = some o ∧ o.cls = .type "dict" ∧ o.data = .dict es n ∧ es.toList.map (·.key) = [.ref b] ∧ es.toList.map (·.val) = [u] ∧ RelV v u) → Dt K M H (.ref b) dk → Dt K M H v d → Dt K M H (.ref a) (.dict [(dk, d)])
inductive Dts (K : PySem.W.Frag) (M : Mp) (H : Hp) : List V → List PyData → Prop
 | nil : Dts K M H [] []
 | cons {x : V} {xs : List V} {d : PyData} {ds : List PyData} : Dt K M H x d → Dts K M H xs ds → Dts K M H (x :: xs) (d :: ds)
end
structure Step (M : Mp) (H : Hp) (M' : Mp) (H' : Hp) : Prop where
 keep : ∀ b o, M b = none → H b = some o → H' b = some o
 free : ∀ b o, M b = none → H b = some o → M' b = none
theorem Step.refl {M : Mp} {H : Hp} : Step M H M H := ⟨fun _ _ _ h => h, fun _ _ h _ => h⟩
theorem Step.trans {M M1 M2 : Mp} {H H1 H2 : Hp} (a : Step M H M1 H1) (b : Step M1 H1 M2 H2) : Step M H M2 H2 :=
 ⟨fun c o h1 h2 => b.keep c o (a.free c o h1 h2) (a.keep c o h1 h2), fun c o h1 h2 => b.free c o (a.free c o h1 h2) (a.keep c o h1 h2)⟩
section
variable {K : PySem.W.Frag} {M M' : Mp} {H H' : Hp}
theorem U5 {a : Addr} {u : HO} (st : Step M H M' H') (hm : M a = none) (h : Rd H a u) : M' a = none ∧ Rd H' a u := by
 rcases h with h | ⟨o, h⟩
 ·exact ⟨st.free _ _ hm h, .inl (st.keep _ _ hm h)⟩
 ·exact ⟨st.free _ _ hm h, .inr ⟨o, st.keep _ _ hm h⟩⟩
theorem TupAt.step {a : Addr} {xs : List V} (h : TupAt K M H a xs) (st : Step M H M' H') : TupAt K M' H' a xs := by
 rcases h with ⟨h1, h2⟩ | h
 ·exact .inl (U5 st h1 h2)
 ·exact .inr h
theorem LstAt.step {a : Addr} {xs : List V} (h : LstAt K M H a xs) (st : Step M H M' H') : LstAt K M' H' a xs := by
 rcases h with ⟨h1, h2⟩ | h
 ·exact .inl (U5 st h1 h2)
 ·exact .inr h
mutual
theorem Dt.step (st : Step M H M' H') : ∀ {v : V} {d : PyData}, Dt K M H v d → Dt K M' H' v d
 | _, _, .non => .non
 | _, _, .bl b => .bl b
 | _, _, .int i => .int i
 | _, _, .str x => .str x
 | _, _, .tup h1 h2 => .tup (h1.step st) (Dts.step st h2)
 | _, _, .lst h1 h2 => .lst (h1.step st) (Dts.step st h2)
 | _, _, .dK h0 h1 h2 => .dK (st.free _ _ h0 h1) (st.keep _ _ h0 h1) (Dts.step st h2)
 | _, _, .dT h0 h1 h2 => .dT (st.free _ _ h0 h1) (st.keep _ _ h0 h1) (Dts.step st h2)
 | _, _, .dX h0 h1 h2 h3 h4 h5 => .dX (st.free _ _ h0 h1) (st.keep _ _ h0 h1) h2 h3 (Dt.step st h4) (Dt.step st h5)
theorem Dts.step (st : Step M H M' H') : ∀ {vs : List V} {ds : List PyData}, Dts K M H vs ds → Dts K M' H' vs ds
 | _, _, .nil => .nil
 | _, _, .cons h1 h2 => .cons (Dt.step st h1) (Dts.step st h2)
end
theorem Dts.length : ∀ {vs : List V} {ds : List PyData}, Dts K M H vs ds → vs.length = ds.length
 | _, _, .nil => rfl
 | _, _, .cons _ h => by rw [List.length_cons, List.length_cons, Dts.length h]
theorem Dts.get : ∀ {vs : List V} {ds : List PyData} {i : Nat} {d : PyData}, Dts K M H vs ds → ds[i]? = some d → ∃ v, vs[i]? = some v ∧ Dt K M H v d
 | _, _, _, _, .nil, e => by simp at e
 | _, _, 0, _, .cons h _, e => by simp at e; subst e; exact ⟨_, rfl, h⟩
 | _, _, i + 1, d, .cons _ h, e => by
  obtain ⟨v, h1, h2⟩ := Dts.get (i := i) (d := d) h (by simpa using e)
  exact ⟨v, by simpa using h1, h2⟩
theorem Dts.L5 : ∀ {vs : List V} {ds : List PyData} {i : Nat} {v : V}, Dts K M H vs ds → vs[i]? = some v → ∃ d, ds[i]? = some d ∧ Dt K M H v d
 | _, _, _, _, .nil, e => by simp at e
 | _, _, 0, _, .cons h _, e => by simp at e; subst e; exact ⟨_, rfl, h⟩
 | _, _, i + 1, v, .cons _ h, e => by
  obtain ⟨d, h1, h2⟩ := Dts.L5 (i := i) (v := v) h (by simpa using e)
  exact ⟨d, by simpa using h1, h2⟩
theorem Dts.append : ∀ {vs ws : List V} {ds es : List PyData}, Dts K M H vs ds → Dts K M H ws es → Dts K M H (vs ++ ws) (ds ++ es)
 | _, _, _, _, .nil, h => h
 | _, _, _, _, .cons h1 h2, h => .cons h1 (Dts.append h2 h)
theorem Dts.take : ∀ {vs : List V} {ds : List PyData} (n : Nat), Dts K M H vs ds → Dts K M H (vs.take n) (ds.take n)
 | _, _, 0, _ => .nil
 | _, _, _ + 1, .nil => .nil
 | _, _, n + 1, .cons h1 h2 => .cons h1 (Dts.take n h2)
theorem Dts.drop : ∀ {vs : List V} {ds : List PyData} (n : Nat), Dts K M H vs ds → Dts K M H (vs.drop n) (ds.drop n)
 | _, _, 0, h => h
 | _, _, _ + 1, .nil => .nil
 | _, _, n + 1, .cons _ h2 => Dts.drop n h2
theorem Dts.set {v : V} {d : PyData} (h : Dt K M H v d) : ∀ {vs : List V} {ds : List PyData} (i : Nat), Dts K M H vs ds → Dts K M H (vs.set i v) (ds.set i d)
 | _, _, _, .nil => .nil
 | _, _, 0, .cons _ t => .cons h t
 | _, _, i + 1, .cons q t => .cons q (Dts.set h i t)
theorem Dts.ints : ∀ (ns : List Int), Dts K M H (ns.map V.int) (ns.map PyData.int)
 | [] => .nil
 | n :: ns => .cons (.int n) (Dts.ints ns)
theorem JL : ∀ {vs : List V} {ns : List Int}, Dts K M H vs (ns.map PyData.int) → vs = ns.map V.int
 | vs, [], h => by
  rw [List.map_nil] at h
  cases h
  rfl
 | vs, n :: ns, h => by
  rw [List.map_cons] at h
  cases h with
  | cons h1 h2 =>
   cases h1
   rw [JL h2, List.map_cons]
mutual
inductive Mx (K : PySem.W.Frag) (M : Mp) (H : Hp) : V → List DV → Prop
 | mk {a : Addr} {vs : List V} {xs : List DV} : M a = none → H a = some (.tup vs) → Mxs K M H vs xs → Mx K M H (.ref a) xs
inductive Mxs (K : PySem.W.Frag) (M : Mp) (H : Hp) : List V → List DV → Prop
 | nil : Mxs K M H [] []
 | dat {v : V} {d : PyData} {vs : List V} {xs : List DV} : Dt K M H v d → Mxs K M H vs xs → Mxs K M H (v :: vs) (.dat d :: xs)
 | own {b : Addr} {vs : List V} {xs : List DV} : Mxs K M H vs xs → Mxs K M H (.ref b :: vs) (.own b :: xs)
 | mix {v : V} {ys : List DV} {vs : List V} {xs : List DV} : Mx K M H v ys → Mxs K M H vs xs → Mxs K M H (v :: vs) (.mix ys :: xs)
end
mutual
theorem Mx.step (st : Step M H M' H') : ∀ {v : V} {xs : List DV}, Mx K M H v xs → Mx K M' H' v xs
 | _, _, .mk h1 h2 h3 => .mk (st.free _ _ h1 h2) (st.keep _ _ h1 h2) (Mxs.step st h3)
theorem Mxs.step (st : Step M H M' H') : ∀ {vs : List V} {xs : List DV}, Mxs K M H vs xs → Mxs K M' H' vs xs
 | _, _, .nil => .nil
 | _, _, .dat h1 h2 => .dat (Dt.step st h1) (Mxs.step st h2)
 | _, _, .own h2 => .own (Mxs.step st h2)
 | _, _, .mix h1 h2 => .mix (Mx.step st h1) (Mxs.step st h2)
end
noncomputable def VR0 (K : PySem.W.Frag) (M : Mp) (H : Hp) (v : V) : DV → Prop
 | .dat d => Dt K M H v d
 | .own b => v = .ref b
 | .ty _ => False
 | .mix xs => Mx K M H v xs
theorem VR0.step {v : V} {x : DV} (h : VR0 K M H v x) (st : Step M H M' H') : VR0 K M' H' v x := by
 cases x with
 | dat d => exact Dt.step st h
 | own b => exact h
 | ty n => exact h
 | mix xs => exact Mx.step st h
noncomputable def OOk (K : PySem.W.Frag) (M : Mp) (H : Hp) (a : Addr) : OO → Prop
 | .lst ds => ∃ vs, H a = some (.lst vs) ∧ Dts K M H vs ds
 | .dct ks => ∃ kvs, H a = some (.dT kvs) ∧ kvs.map (·.1) = ks
 | .dtv ps => ∃ kvs, H a = some (.dT kvs) ∧ kvs.map (·.1) = ps.map (·.1) ∧ Dts K M H (kvs.map (·.2)) (ps.map (·.2))
 | .dkv ps => ∃ kvs, H a = some (.dK kvs) ∧ kvs.map (·.1) = ps.map (·.1) ∧ Dts K M H (kvs.map (·.2)) (ps.map (·.2))
 | .dko ps => ∃ kvs, H a = some (.dK kvs) ∧ Paired (fun (p : Key × V) (q : Key × DV) => p.1 = q.1 ∧ VR0 K M H p.2 q.2) kvs ps
 | .fdk o ps => ∃ kvs, H a = some (.frz o (.dK kvs)) ∧ kvs.map (·.1) = ps.map (·.1) ∧ Dts K M H (kvs.map (·.2)) (ps.map (·.2))
 | .lsv _ xs => ∃ vs, H a = some (.lst vs) ∧ Paired (VR0 K M H) vs xs
 | .ext φ => H a = some (.ext φ)
theorem OOk.step {a : Addr} {o : OO} (h : OOk K M H a o) (st : Step M H M' H') (e : ∀ u, H a = some u → H' a = some u) : OOk K M' H' a o := by
 cases o with
 | lst ds => obtain ⟨vs, e1, e2⟩ := h; exact ⟨vs, e _ e1, e2.step st⟩
 | dct ks => obtain ⟨vs, e1, e2⟩ := h; exact ⟨vs, e _ e1, e2⟩
 | dtv ps => obtain ⟨vs, e1, e2, e3⟩ := h; exact ⟨vs, e _ e1, e2, e3.step st⟩
 | dkv ps => obtain ⟨vs, e1, e2, e3⟩ := h; exact ⟨vs, e _ e1, e2, e3.step st⟩
 | dko ps => obtain ⟨vs, e1, e2⟩ := h; exact ⟨vs, e _ e1, Paired.L6 e2 fun _ _ z => ⟨z.1, z.2.step st⟩⟩
 | fdk o ps => obtain ⟨vs, e1, e2, e3⟩ := h; exact ⟨vs, e _ e1, e2, e3.step st⟩
 | lsv n xs => obtain ⟨vs, e1, e2⟩ := h; exact ⟨vs, e _ e1, Paired.L6 e2 fun _ _ z => z.step st⟩
 | ext φ => exact e _ h
theorem OOk.some {a : Addr} {o : OO} (h : OOk K M H a o) : ∃ u, H a = some u := by
 cases o with
 | lst ds => obtain ⟨vs, e1, _⟩ := h; exact ⟨_, e1⟩
 | dct ks => obtain ⟨vs, e1, _⟩ := h; exact ⟨_, e1⟩
 | dtv ps => obtain ⟨vs, e1, _⟩ := h; exact ⟨_, e1⟩
 | dkv ps => obtain ⟨vs, e1, _⟩ := h; exact ⟨_, e1⟩
 | dko ps => obtain ⟨vs, e1, _⟩ := h; exact ⟨_, e1⟩
 | fdk o ps => obtain ⟨vs, e1, _⟩ := h; exact ⟨_, e1⟩
 | lsv n xs => obtain ⟨vs, e1, _⟩ := h; exact ⟨_, e1⟩
 | ext φ => exact ⟨_, h⟩
structure Zv (K : PySem.W.Frag) (M : Mp) (H : Hp) : Prop where
 ok : ∀ a o, M a = some o → OOk K M H a o
theorem Zv.ls (r : Zv K M H) (a : Addr) (ds : List PyData) (h : M a = some (.lst ds)) : ∃ vs, H a = some (.lst vs) ∧ Dts K M H vs ds := r.ok a _ h
theorem Zv.tracked (r : Zv K M H) {a : Addr} (h : H a = none) : M a = none := by
 cases q : M a with
 | none => rfl
 | some o =>
  obtain ⟨u, e⟩ := (r.ok a o q).some
  rw [h] at e
  cases e
theorem Step.new {p : Addr} {o : HO} (h : H p = none) : Step M H M (upd H p o) :=
 ⟨fun b u _ e => by rw [ZA (Zo e h)]; exact e, fun _ _ h _ => h⟩
theorem Zv.step_same (r : Zv K M H) (st : Step M H M H') (hk : ∀ a u, M a ≠ none → H a = some u → H' a = some u) : Zv K M H' :=
 ⟨fun a o e => (r.ok a o e).step st fun u hu => hk a u (by rw [e]; simp) hu⟩
theorem Zv.new (r : Zv K M H) {p : Addr} {o : HO} (h : H p = none) : Zv K M (upd H p o) :=
 r.step_same (Step.new h) fun a vs _ e => by rw [ZA (Zo e h)]; exact e
theorem Step.Jj {p : Addr} {o : HO} {q : OO} (h : H p = none) : Step M H (ZE M p q) (upd H p o) :=
 ⟨fun b u _ e => by rw [ZA (Zo e h)]; exact e, fun b u hm e => by rw [ZZ (Zo e h)]; exact hm⟩
theorem Step.Wq {p : Addr} {o : HO} {q q' : OO} (h : M p = some q) : Step M H (ZE M p q') (upd H p o) := by
 have ne : ∀ b, M b = none → b ≠ p := fun b hb e => by rw [e, h] at hb; cases hb
 exact ⟨fun b u hb e => by rw [ZA (ne b hb)]; exact e, fun b u hb e => by rw [ZZ (ne b hb)]; exact hb⟩
theorem Zv.EW (r : Zv K M H) {p : Addr} {u : HO} {o : OO} (st : Step M H (ZE M p o) (upd H p u)) (h : OOk K (ZE M p o) (upd H p u) p o) : Zv K (ZE M p o) (upd H p u) := by
 refine ⟨fun a q e => ?_⟩
 by_cases ha : a = p
 ·subst ha
  rw [Z4] at e
  cases e
  exact h
 ·rw [ZZ ha] at e
  exact (r.ok a q e).step st fun v hv => by rw [ZA ha]; exact hv
theorem Zv.XT (r : Zv K M H) {p : Addr} {vs : List V} {ds : List PyData} (st : Step M H (ZE M p (.lst ds)) (upd H p (.lst vs))) (hv : Dts K M H vs ds) :
  Zv K (ZE M p (.lst ds)) (upd H p (.lst vs)) := r.EW st ⟨vs, Qe, hv.step st⟩
theorem Step.frz {p : Addr} : Step M H (VA M p) H :=
 ⟨fun _ _ _ h => h, fun b o hb _ => by unfold VA; split <;> first | rfl | exact hb⟩
theorem Zv.frz (r : Zv K M H) {p : Addr} : Zv K (VA M p) H := by
 refine ⟨fun a o e => ?_⟩
 have hne : a ≠ p := fun z => by rw [z, XJ] at e; cases e
 rw [Yr hne] at e
 exact (r.ok a o e).step Step.frz fun _ h => h
noncomputable def ZU (K : PySem.W.Frag) (M : Mp) (H : Hp) (v : V) : DV → Prop
 | .dat d => Dt K M H v d
 | .own a => v = .ref a
 | .ty n => v = .ty n
 | .mix xs => Mx K M H v xs
theorem ZU.step {v : V} {x : DV} (h : ZU K M H v x) (st : Step M H M' H') : ZU K M' H' v x := by
 cases x with
 | dat d => exact Dt.step st h
 | own a => exact h
 | ty n => exact h
 | mix xs => exact Mx.step st h
noncomputable abbrev Jv (K : PySem.W.Frag) (M : Mp) (H : Hp) : List V → List DV → Prop := Paired (ZU K M H)
theorem Jv.step {vs : List V} {xs : List DV} (h : Jv K M H vs xs) (st : Step M H M' H') : Jv K M' H' vs xs := Paired.L6 h fun _ _ q => ZU.step q st
theorem Jv.Ra : ∀ {vs : List V} {ds : List PyData}, Jv K M H vs (ds.map DV.dat) → Dts K M H vs ds
 | vs, [], h => by rw [List.map_nil] at h; cases h; exact .nil
 | vs, d :: ds, h => by
  rw [List.map_cons] at h
  cases h with
  | cons h1 h2 => exact .cons h1 (Jv.Ra h2)
noncomputable def onV (o : Option (Option DV)) (P : DV → Prop) : Prop := match o with | some (some x) => P x | _ => False
theorem EV {o : Option (Option DV)} {P : DV → Prop} (h : onV o P) : ∃ x, o = some (some x) ∧ P x := by
 unfold onV at h
 split at h
 ·exact ⟨_, rfl, h⟩
 ·exact h.elim
noncomputable def onI (x : DV) (P : Int → Prop) : Prop := match x with | .dat (.int i) => P i | _ => False
theorem ZH {x : DV} {P : Int → Prop} (h : onI x P) : ∃ i, x = .dat (.int i) ∧ P i := by
 unfold onI at h
 split at h
 ·exact ⟨_, rfl, h⟩
 ·exact h.elim
noncomputable def onB (x : DV) (P : Bool → Prop) : Prop := match x with | .dat (.bool i) => P i | _ => False
theorem V1 {x : DV} {P : Bool → Prop} (h : onB x P) : ∃ i, x = .dat (.bool i) ∧ P i := by
 unfold onB at h
 split at h
 ·exact ⟨_, rfl, h⟩
 ·exact h.elim
noncomputable def onS (x : DV) (P : Str → Prop) : Prop := match x with | .dat (.str i) => P i | _ => False
theorem WS {x : DV} {P : Str → Prop} (h : onS x P) : ∃ i, x = .dat (.str i) ∧ P i := by
 unfold onS at h
 split at h
 ·exact ⟨_, rfl, h⟩
 ·exact h.elim
noncomputable def onT (x : DV) (P : List PyData → Prop) : Prop := match x with | .dat (.tuple i) => P i | _ => False
theorem VN {x : DV} {P : List PyData → Prop} (h : onT x P) : ∃ i, x = .dat (.tuple i) ∧ P i := by
 unfold onT at h
 split at h
 ·exact ⟨_, rfl, h⟩
 ·exact h.elim
noncomputable def onL (x : DV) (P : List PyData → Prop) : Prop := match x with | .dat (.list i) => P i | _ => False
theorem MF {x : DV} {P : List PyData → Prop} (h : onL x P) : ∃ i, x = .dat (.list i) ∧ P i := by
 unfold onL at h
 split at h
 ·exact ⟨_, rfl, h⟩
 ·exact h.elim
noncomputable def onD (x : DV) (P : PyData → Prop) : Prop := match x with | .dat i => P i | _ => False
theorem Qi {x : DV} {P : PyData → Prop} (h : onD x P) : ∃ i, x = .dat i ∧ P i := by
 unfold onD at h
 split at h
 ·exact ⟨_, rfl, h⟩
 ·exact h.elim
noncomputable def onO (x : DV) (P : Addr → Prop) : Prop := match x with | .own i => P i | _ => False
theorem Q0 {x : DV} {P : Addr → Prop} (h : onO x P) : ∃ i, x = .own i ∧ P i := by
 unfold onO at h
 split at h
 ·exact ⟨_, rfl, h⟩
 ·exact h.elim
noncomputable def Jw (o : Option OO) (P : List PyData → Prop) : Prop := match o with | some (.lst ds) => P ds | _ => False
theorem JT {o : Option OO} {P : List PyData → Prop} (h : Jw o P) : ∃ ds, o = some (.lst ds) ∧ P ds := by
 unfold Jw at h
 split at h
 ·exact ⟨_, rfl, h⟩
 ·exact h.elim
noncomputable def HP (o : Option OO) (P : List (List Key) → Prop) : Prop := match o with | some (.dct ks) => P ks | _ => False
noncomputable def onQ (x : DV) (M : Mp) (P : List PyData → Prop) : Prop := match x with | .dat (.tuple ds) => P ds | .dat (.list ds) => P ds | .own l => Jw (M l) P | _ => False
theorem Wt {x : DV} {M : Mp} {P : List PyData → Prop} (h : onQ x M P) : ∃ ds, (x = .dat (.tuple ds) ∨ x = .dat (.list ds) ∨ ∃ l, x = .own l ∧ M l = some (.lst ds)) ∧ P ds := by
 unfold onQ at h
 split at h
 ·exact ⟨_, .inl rfl, h⟩
 ·exact ⟨_, .inr (.inl rfl), h⟩
 ·replace h := JT h
  obtain ⟨ds, e, h⟩ := h
  exact ⟨ds, .inr (.inr ⟨_, rfl, e⟩), h⟩
 ·exact h.elim
noncomputable def onK (x : DV) (M : Mp) (P : List PyData → Prop) : Prop := match x with | .dat (.list ds) => P ds | .own l => Jw (M l) P | _ => False
noncomputable def on1 (xs : List DV) (P : DV → Prop) : Prop := match xs with | [x] => P x | _ => False
theorem Zm {xs : List DV} {P : DV → Prop} (h : on1 xs P) : ∃ x, xs = [x] ∧ P x := by
 unfold on1 at h
 split at h
 ·exact ⟨_, rfl, h⟩
 ·exact h.elim
noncomputable def on2 (xs : List DV) (P : DV → DV → Prop) : Prop := match xs with | [x, y] => P x y | _ => False
theorem Qr {xs : List DV} {P : DV → DV → Prop} (h : on2 xs P) : ∃ x y, xs = [x, y] ∧ P x y := by
 unfold on2 at h
 split at h
 ·exact ⟨_, _, rfl, h⟩
 ·exact h.elim
noncomputable def on3 (xs : List DV) (P : DV → DV → DV → Prop) : Prop := match xs with | [x, y, z] => P x y z | _ => False
theorem XR {xs : List DV} {P : DV → DV → DV → Prop} (h : on3 xs P) : ∃ x y z, xs = [x, y, z] ∧ P x y z := by
 unfold on3 at h
 split at h
 ·exact ⟨_, _, _, rfl, h⟩
 ·exact h.elim
noncomputable def on4 (xs : List DV) (P : DV → DV → DV → DV → Prop) : Prop := match xs with | [x0, x1, x2, x3] => P x0 x1 x2 x3 | _ => False
noncomputable def on5 (xs : List DV) (P : DV → DV → DV → DV → DV → Prop) : Prop := match xs with | [x0, x1, x2, x3, x4] => P x0 x1 x2 x3 x4 | _ => False
noncomputable def on6 (xs : List DV) (P : DV → DV → DV → DV → DV → DV → Prop) : Prop := match xs with | [x0, x1, x2, x3, x4, x5] => P x0 x1 x2 x3 x4 x5 | _ => False
noncomputable def CZ : List DV → Option (List PyData)
 | [] => some []
 | .dat d :: r => match CZ r with | some ds => some (d :: ds) | none => none
 | _ :: _ => none
theorem WU : ∀ {xs : List DV} {ds : List PyData}, CZ xs = some ds → xs = ds.map DV.dat
 | [], _, h => by cases h; rfl
 | .dat d :: r, ds, h => by
  rw [CZ] at h
  split at h
  ·rename_i es e
   cases h
   rw [List.map_cons, ← WU e]
  ·cases h
 | .own _ :: _, _, h => by cases h
 | .ty _ :: _, _, h => by cases h
 | .mix _ :: _, _, h => by cases h
noncomputable def Vl (xs : List DV) (P : List PyData → Prop) : Prop := match Nat.ble xs.length 100 with
 | true => (match CZ xs with | some ds => P ds | none => False)
 | false => False
theorem Wa {xs : List DV} {P : List PyData → Prop} (h : Vl xs P) : ∃ ds, xs = ds.map DV.dat ∧ ds.length ≤ 100 ∧ P ds := by
 unfold Vl at h
 split at h
 ·rename_i e
  split at h
  ·rename_i ds e2
   have e3 := WU e2
   refine ⟨ds, e3, ?_, h⟩
   have e4 := Nat.le_of_ble_eq_true e
   rwa [e3, List.length_map] at e4
  ·exact h.elim
 ·exact h.elim
noncomputable abbrev DSt := List (Option DV)
structure Qu (K : PySem.W.Frag) (M : Mp) (H : Hp) (σ : L2.St) (Δ : DSt) : Prop where
 len : σ.length = Δ.length
 at' : ∀ (i : Nat) (x : DV), Δ[i]? = some (some x) → ∃ v, σ[i]? = some (some v) ∧ ZU K M H v x
theorem Qu.step {σ : L2.St} {Δ : DSt} (h : Qu K M H σ Δ) (st : Step M H M' H') : Qu K M' H' σ Δ :=
 ⟨h.len, fun i x e => let ⟨v, e1, e2⟩ := h.at' i x e; ⟨v, e1, e2.step st⟩⟩
theorem Qu.set {σ : L2.St} {Δ : DSt} {i : Nat} {v : V} {x : DV} (h : Qu K M H σ Δ) (r : ZU K M H v x) : Qu K M H (σ.set i (some v)) (Δ.set i (some x)) := by
 refine ⟨by rw [List.length_set, List.length_set, h.len], fun j y e => ?_⟩
 by_cases hj : i = j
 ·subst hj
  by_cases hl : i < Δ.length
  ·rw [List.getElem?_set_self hl] at e
   cases e
   exact ⟨v, List.getElem?_set_self (by rw [h.len]; exact hl), r⟩
  ·rw [List.getElem?_eq_none (by rw [List.length_set]; omega)] at e
   cases e
 ·rw [List.getElem?_set_ne hj] at e
  rw [List.getElem?_set_ne hj]
  exact h.at' j y e
noncomputable def JZ (N : List Str) (xs : List DV) : DSt := xs.map some ++ List.replicate (N.length - xs.length) none
theorem Paired.RD {α β : Type} {F : α → β → Prop} : ∀ {l : List α} {m : List β} {i : Nat} {b : β}, Paired F l m → m[i]? = some b → ∃ a, l[i]? = some a ∧ F a b
 | _, _, _, _, .nil, e => by simp at e
 | _, _, 0, _, .cons h _, e => by simp at e; subst e; exact ⟨_, rfl, h⟩
 | _, _, i + 1, b, .cons _ h, e => by
  obtain ⟨a, h1, h2⟩ := Paired.RD (i := i) (b := b) h (by simpa using e)
  exact ⟨a, by simpa using h1, h2⟩
theorem Qu.start {N : List Str} {vs : List V} {xs : List DV} (h : Jv K M H vs xs) : Qu K M H (start N vs) (JZ N xs) := by
 have hl : vs.length = xs.length := Paired.length h
 refine ⟨by unfold L2.start JZ; simp [hl], fun i x e => ?_⟩
 unfold JZ at e
 unfold L2.start
 by_cases hi : i < xs.length
 ·rw [List.getElem?_append_left (by simpa using hi), List.getElem?_map] at e
  cases q : xs[i]? with
  | none => rw [q] at e; cases e
  | some y =>
   rw [q] at e
   cases e
   obtain ⟨v, h1, h2⟩ := Paired.RD h q
   exact ⟨v, by rw [List.getElem?_append_left (by simpa [hl] using hi), List.getElem?_map, h1]; rfl, h2⟩
 ·rw [List.getElem?_append_right (by simpa using hi), List.getElem?_replicate] at e
  split at e <;> cases e
end
noncomputable abbrev DK := DV → Mp → Prop
noncomputable abbrev DTE := DSt → Mp → DK → Prop
noncomputable abbrev DTT := DSt → Mp → (Bool → Mp → Prop) → Prop
noncomputable abbrev DTA := DSt → Mp → (List DV → Mp → Prop) → Prop
structure Z1 where
 nx : DSt → Mp → Prop
 rt : DK
 bk : DSt → Mp → Prop := fun _ _ => False
 ct : DSt → Mp → Prop := fun _ _ => False
noncomputable abbrev DTS := Z1 → DSt → Mp → Prop
noncomputable def Rch (K : PySem.W.Frag) (M : Mp) (H : Hp) (Φ : DK) (Q : VK) : Prop := ∀ v H' x M', Zv K M' H' → Step M H M' H' → ZU K M' H' v x → Φ x M' → Q v H'
theorem Rch.step {K : PySem.W.Frag} {M M' : Mp} {H H' : Hp} {Φ : DK} {Q : VK} (h : Rch K M H Φ Q) (st : Step M H M' H') : Rch K M' H' Φ Q := fun v H2 x M2 r s2 q f => h v H2 x M2 r (st.trans s2) q f
theorem Rch.dat {K : PySem.W.Frag} {M M' : Mp} {H H' : Hp} {Φ : DK} {Q : VK} {v : V} {d : PyData} (h : Rch K M H Φ Q) (r : Zv K M' H') (st : Step M H M' H') (hd : Dt K M' H' v d) (f : Φ (.dat d) M') : Q v H' := h v H' (.dat d) M' r st hd f
noncomputable def DE (X : Cx) (e : Expr) (τ : DTE) : Prop := ∃ t, PE X e t ∧ ∀ σ H Δ M Φ Q, Zv X.K M H → Qu X.K M H σ Δ → τ Δ M Φ → Rch X.K M H Φ Q → t σ H Q
noncomputable def DT (X : Cx) (e : Expr) (τ : DTT) : Prop := ∃ t, PT X e t ∧ ∀ σ H Δ M Φ (Q : Bool → Hp → Prop), Zv X.K M H → Qu X.K M H σ Δ → τ Δ M Φ →
 (∀ b H' M', Zv X.K M' H' → Step M H M' H' → Φ b M' → Q b H') → t σ H Q
noncomputable def DW (X : Cx) (e : Expr) (τ : DTT) : Prop := ∃ t, PW X e t ∧ ∀ σ H Δ M Φ (Q : Bool → Hp → Prop), Zv X.K M H → Qu X.K M H σ Δ → τ Δ M Φ →
 (∀ b H' M', Zv X.K M' H' → Step M H M' H' → Φ b M' → Q b H') → t σ H Q
noncomputable def DA (X : Cx) (es : List Expr) (τ : DTA) : Prop := ∃ t, PA X es t ∧ ∀ σ H Δ M Φ (Q : List V → Hp → Prop), Zv X.K M H → Qu X.K M H σ Δ → τ Δ M Φ →
 (∀ vs H' xs M', Zv X.K M' H' → Step M H M' H' → Jv X.K M' H' vs xs → Φ xs M' → Q vs H') → t σ H Q
structure Vs (K : PySem.W.Frag) (M : Mp) (H : Hp) (D : Z1) (E : Ends) : Prop where
 nx : ∀ σ' H' Δ' M', Zv K M' H' → Step M H M' H' → Qu K M' H' σ' Δ' → D.nx Δ' M' → E.nx σ' H'
 rt : Rch K M H D.rt E.rt
 bk : ∀ σ' H' Δ' M', Zv K M' H' → Step M H M' H' → Qu K M' H' σ' Δ' → D.bk Δ' M' → E.bk σ' H'
 ct : ∀ σ' H' Δ' M', Zv K M' H' → Step M H M' H' → Qu K M' H' σ' Δ' → D.ct Δ' M' → E.ct σ' H'
theorem Vs.step {K : PySem.W.Frag} {M M' : Mp} {H H' : Hp} {D : Z1} {E : Ends} (h : Vs K M H D E) (st : Step M H M' H') : Vs K M' H' D E :=
 ⟨fun a b c d r s => h.nx a b c d r (st.trans s), h.rt.step st, fun a b c d r s => h.bk a b c d r (st.trans s), fun a b c d r s => h.ct a b c d r (st.trans s)⟩
noncomputable def DS (X : Cx) (st : Stmt) (τ : DTS) : Prop := ∃ t, PS X st t ∧ ∀ σ H Δ M D E, Zv X.K M H → Qu X.K M H σ Δ → τ D Δ M → Vs X.K M H D E → t E σ H
noncomputable def DSs (X : Cx) (st : List Stmt) (τ : DTS) : Prop := ∃ t, PSs X st t ∧ ∀ σ H Δ M D E, Zv X.K M H → Qu X.K M H σ Δ → τ D Δ M → Vs X.K M H D E → t E σ H
section
variable {X : Cx} {a b c : Expr} {ta tb tc : DTE} {pos : Pos}
noncomputable def T9 (i : Nat) : DTE := fun Δ M Φ => onV Δ[i]? fun x => Φ x M
noncomputable def dC (d : PyData) : DTE := fun _ M Φ => Φ (.dat d) M
theorem Zb (i : Nat) {x : Str} {pos : Pos} (hN : X.N[i]? = some x := by rfl) (hv : Vis X.env.scope x := by first | exact Or.inl rfl | exact Or.inr (Or.inl rfl) | exact Or.inr (Or.inr rfl)) (hd : (x == ("__debug__" : Str)) = false := by decide)
  (hcd : (x == ("__classdict__" : Str)) = false := by decide) : DE X (.Name x pos) (T9 i) := by
 refine ⟨_, MZ hN hv hd hcd, fun σ H Δ M Φ Q r e h k => ?_⟩
 replace h := EV h
 obtain ⟨x, e1, h⟩ := h
 obtain ⟨v, e2, q⟩ := e.at' i x e1
 exact ⟨v, e2, k v H x M r Step.refl q h⟩
theorem YV {e : Expr} {v : V} {d : PyData} (h : PE X e (tC v)) (q : ∀ M H, Dt X.K M H v d) : DE X e (dC d) :=
 ⟨_, h, fun _ H _ M _ _ r _ h k => k v H (.dat d) M r Step.refl (q M H) h⟩
theorem Zc {i j pos} : DE X (.Constant (.int i) j pos) (dC (.int i)) := YV Pc fun _ _ => .int i
theorem Xj {b j pos} : DE X (.Constant (.bool b) j pos) (dC (.bool b)) := YV Tw fun _ _ => .bl b
theorem YY {x : Str} {i : Int} {t : Tok} {pos : Pos} (hg : Gl X x) (hm : X.mg x = some (.int i t)) (hd : (x == ("__debug__" : Str)) = false := by decide) : DE X (.Name x pos) (dC (.int i)) :=
 YV (Lm (v := .int i) hg hm ⟨t, rfl⟩ hd) fun _ _ => .int i
noncomputable def dTy (n : String) : DTE := fun _ M Φ => Φ (.ty n) M
theorem UC {x : Str} {n : String} {pos : Pos} (hg : Gl X x) (hm : X.mg x = none) (hv : bootBuiltins x = some (.type n)) (hn : x ≠ "__name__" := by decide) (hdb : (x == ("__debug__" : Str)) = false := by decide) : DE X (.Name x pos) (dTy n) :=
 ⟨_, Ki (v := .ty n) hg hm hv rfl hn hdb, fun _ H _ M _ _ r _ h k => k (.ty n) H (.ty n) M r Step.refl rfl h⟩
end
end DL
namespace DL
open PySem PySem.Spec PyProof.Rows L2
section
variable {K : PySem.W.Frag} {M M' : Mp} {H H' : Hp} {v : V}
theorem ZU.bool {b : Bool} (h : ZU K M H v (.dat (.bool b))) : v = .bl b := by cases (show Dt K M H v (.bool b) from h); rfl
theorem ZU.int {i : Int} (h : ZU K M H v (.dat (.int i))) : v = .int i := by cases (show Dt K M H v (.int i) from h); rfl
theorem ZU.str {x : Str} (h : ZU K M H v (.dat (.str x))) : v = .str x := by cases (show Dt K M H v (.str x) from h); rfl
theorem ZU.tup {ds : List PyData} (h : ZU K M H v (.dat (.tuple ds))) : ∃ a xs, v = .ref a ∧ TupAt K M H a xs ∧ Dts K M H xs ds := by
 cases (show Dt K M H v (.tuple ds) from h) with
 | tup h1 h2 => exact ⟨_, _, rfl, h1, h2⟩
theorem ZU.lst {ds : List PyData} (h : ZU K M H v (.dat (.list ds))) : ∃ a xs, v = .ref a ∧ LstAt K M H a xs ∧ Dts K M H xs ds := by
 cases (show Dt K M H v (.list ds) from h) with
 | lst h1 h2 => exact ⟨_, _, rfl, h1, h2⟩
theorem Dt.Yb {p : Addr} {xs : List V} {ds : List PyData} (r : Zv K M H) (hp : H p = none) (h : Dts K M H xs ds) : Dt K M (upd H p (.tup xs)) (.ref p) (.tuple ds) :=
 .tup (.inl ⟨r.tracked hp, .inl Qe⟩) (h.step (Step.new hp))
theorem Dt.V0 {p : Addr} {xs : List V} {ds : List PyData} (r : Zv K M H) (hp : H p = none) (h : Dts K M H xs ds) : Dt K M (upd H p (.lst xs)) (.ref p) (.list ds) :=
 .lst (.inl ⟨r.tracked hp, .inl Qe⟩) (h.step (Step.new hp))
end
noncomputable def Snd (K : PySem.W.Frag) (t : TE) (τ : DTE) : Prop := ∀ σ H Δ M Φ Q, Zv K M H → Qu K M H σ Δ → τ Δ M Φ → Rch K M H Φ Q → t σ H Q
theorem Snd.bin {K : PySem.W.Frag} {ta tb : TE} {τa τb : DTE} (qa : Snd K ta τa) (qb : Snd K tb τb) {M : Mp} {H : Hp} {σ : L2.St} {Δ : DSt} {S : DV → DV → Mp → Prop} {R : V → V → Hp → Prop} (r : Zv K M H) (e : Qu K M H σ Δ)
  (h : τa Δ M fun x M1 => τb Δ M1 fun y M2 => S x y M2)
  (k : ∀ v u H2 x y M2, Zv K M2 H2 → Step M H M2 H2 → ZU K M2 H2 v x → ZU K M2 H2 u y → S x y M2 → R v u H2) : ta σ H fun v H1 => tb σ H1 fun u H2 => R v u H2 :=
 qa σ H Δ M _ _ r e h fun v H1 x M1 r1 st rv hx => qb σ H1 Δ M1 _ _ r1 (e.step st) hx fun u H2 y M2 r2 st2 ru hy => k v u H2 x y M2 r2 (st.trans st2) (rv.step st2) ru hy
noncomputable abbrev D2 := DV → DV → Mp → DK → Prop
noncomputable def OpD (X : Cx) (f : Value → Value → Sem Value) (δ : D2) : Prop := ∃ r : R2, OpR X f r ∧ ∀ v u H x y M Φ Q, Zv X.K M H → ZU X.K M H v x → ZU X.K M H u y → δ x y M Φ → Rch X.K M H Φ Q → r v u H Q
noncomputable def dOp (δ : D2) (ta tb : DTE) : DTE := fun Δ M Φ => ta Δ M fun x M1 => tb Δ M1 fun y M2 => δ x y M2 Φ
section
variable {X : Cx} {a b c : Expr} {ta tb tc : DTE} {pos : Pos} {op op' : CmpOp} {δ δ' : D2}
theorem Snd.opn {ta' tb' : TE} {r : R2} (ha : Snd X.K ta' ta) (hb : Snd X.K tb' tb) (q : ∀ v u H x y M Φ Q, Zv X.K M H → ZU X.K M H v x → ZU X.K M H u y → δ x y M Φ → Rch X.K M H Φ Q → r v u H Q) : Snd X.K (tOp r ta' tb') (dOp δ ta tb) :=
 fun _ _ _ _ _ _ dr e h k => Snd.bin ha hb dr e h fun v u H2 x y M2 r2 st rv ru hs => q v u H2 x y M2 _ _ r2 rv ru hs (k.step st)
theorem Zj {bop : Operator} (ho : OpD X (binaryOp bop) δ) (ha : DE X a ta) (hb : DE X b tb) : DE X (.BinOp a bop b pos) (dOp δ ta tb) := by
 obtain ⟨ta', pa, qa⟩ := ha
 obtain ⟨tb', pb, qb⟩ := hb
 obtain ⟨r, hr, q⟩ := ho
 exact ⟨_, RA hr pa pb, Snd.opn qa qb q⟩
theorem V7 (ho : OpD X (compareOp op) δ) (ha : DE X a ta) (hb : DE X b tb) (hm : behindInMarks op b = false := by first | exact Fe _ | rfl) : DE X (.Compare a [op] [b] pos) (dOp δ ta tb) := by
 obtain ⟨ta', pa, qa⟩ := ha
 obtain ⟨tb', pb, qb⟩ := hb
 obtain ⟨r, hr, q⟩ := ho
 exact ⟨_, Hy hr pa pb hm, Snd.opn qa qb q⟩
noncomputable def dB (t : DTE) : DTT := fun Δ M Φ => t Δ M fun x M1 => onB x fun c => Φ c M1
theorem Snd.test {t : TE} {τ : DTE} (h : Snd X.K t τ) {σ : L2.St} {H : Hp} {Δ : DSt} {M : Mp} {Φ : Bool → Mp → Prop} {Q : Bool → Hp → Prop} (r : Zv X.K M H) (e : Qu X.K M H σ Δ) (hw : dB τ Δ M Φ)
  (k : ∀ b H' M', Zv X.K M' H' → Step M H M' H' → Φ b M' → Q b H') : t σ H fun x H1 => ∃ c, x = .bl c ∧ Q c H1 := by
 refine h σ H Δ M _ _ r e hw fun v H1 x M1 r1 st rv hx => ?_
 replace hx := V1 hx
 obtain ⟨c, rfl, hx⟩ := hx
 exact ⟨c, rv.bool, k c H1 M1 r1 st hx⟩
theorem QR (ho : OpD X (compareOp op) δ) (ha : DE X a ta) (hb : DE X b tb) (hm : behindInMarks op b = false := by first | exact Fe _ | rfl) : DT X (.Compare a [op] [b] pos) (dB (dOp δ ta tb)) := by
 obtain ⟨ta', pa, qa⟩ := ha
 obtain ⟨tb', pb, qb⟩ := hb
 obtain ⟨r, hr, q⟩ := ho
 exact ⟨_, Ly hr pa pb hm, fun _ _ _ _ _ _ dr e h k => Snd.test (Snd.opn qa qb q) dr e h k⟩
theorem Jl {e : Expr} {τ : DTE} (h : DE X e τ) (he : ∀ whole, isTrue e X.env whole = (do let v ← whole; standAt e.pos; holding [v] (truthy v)) := by intro _; rfl) : DT X e (dB τ) := by
 obtain ⟨t, p, q⟩ := h
 exact ⟨_, MI p he, fun _ _ _ _ _ _ dr e h k => Snd.test q dr e h k⟩
noncomputable def WN (δ δ' : D2) (ta tb tc : DTE) : DTE := fun Δ M Φ => ta Δ M fun x M1 => tb Δ M1 fun y M2 => δ x y M2 fun z M3 => onB z fun k => (if k = true then tc Δ M3 fun w' M4 => δ' y w' M4 Φ else Φ (.dat (.bool false)) M3)
theorem Snd.chain {ta' tb' tc' : TE} {r r' : R2} (ha : Snd X.K ta' ta) (hb : Snd X.K tb' tb) (hc : Snd X.K tc' tc) (q : ∀ v u H x y M Φ Q, Zv X.K M H → ZU X.K M H v x → ZU X.K M H u y → δ x y M Φ → Rch X.K M H Φ Q → r v u H Q)
  (q' : ∀ v u H x y M Φ Q, Zv X.K M H → ZU X.K M H v x → ZU X.K M H u y → δ' x y M Φ → Rch X.K M H Φ Q → r' v u H Q) : Snd X.K (U4 r r' ta' tb' tc') (WN δ δ' ta tb tc) := by
 intro σ H Δ M Φ Q dr e h k
 refine Snd.bin ha hb dr e h fun v u H2 x y M2 r2 st rv ru hs => ?_
 refine q v u H2 x y M2 _ _ r2 rv ru hs fun z H3 zd M3 r3 st3 rz hz => ?_
 replace hz := V1 hz
 obtain ⟨kb, rfl, hz⟩ := hz
 refine ⟨kb, rz.bool, ?_⟩
 cases kb with
 | true =>
  have hz' : tc Δ M3 fun w' M4 => δ' y w' M4 Φ := by simpa using hz
  rw [if_pos rfl]
  refine hc σ H3 Δ M3 _ _ r3 (e.step (st.trans st3)) hz' fun w' H4 wd M4 r4 st4 rw4 hw4 => ?_
  exact q' u w' H4 y wd M4 _ _ r4 (ru.step (st3.trans st4)) rw4 hw4 (k.step (st.trans (st3.trans st4)))
 | false =>
  have hz' : Φ (.dat (.bool false)) M3 := by simpa using hz
  rw [if_neg Bool.false_ne_true]
  exact k.dat r3 (st.trans st3) (Dt.bl false) hz'
theorem Ej (ho : OpD X (compareOp op) δ) (ho' : OpD X (compareOp op') δ') (ha : DE X a ta) (hb : DE X b tb) (hc : DE X c tc) (hm : lastMarks [op, op'] [b, c] = false := by with_unfolding_all rfl) :
  DE X (.Compare a [op, op'] [b, c] pos) (WN δ δ' ta tb tc) := by
 obtain ⟨ta', pa, qa⟩ := ha
 obtain ⟨tb', pb, qb⟩ := hb
 obtain ⟨tc', pc, qc⟩ := hc
 obtain ⟨r, hr, q⟩ := ho
 obtain ⟨r', hr', q'⟩ := ho'
 exact ⟨_, CH hr hr' pa pb pc hm, Snd.chain qa qb qc q q'⟩
theorem B0 (ho : OpD X (compareOp op) δ) (ho' : OpD X (compareOp op') δ') (ha : DE X a ta) (hb : DE X b tb) (hc : DE X c tc) (hm : lastMarks [op, op'] [b, c] = false := by with_unfolding_all rfl) :
  DT X (.Compare a [op, op'] [b, c] pos) (dB (WN δ δ' ta tb tc)) := by
 obtain ⟨ta', pa, qa⟩ := ha
 obtain ⟨tb', pb, qb⟩ := hb
 obtain ⟨tc', pc, qc⟩ := hc
 obtain ⟨r, hr, q⟩ := ho
 obtain ⟨r', hr', q'⟩ := ho'
 exact ⟨_, D8 hr hr' pa pb pc hm, fun _ _ _ _ _ _ dr e h k => Snd.test (Snd.chain qa qb qc q q') dr e h k⟩
variable {tA tB' : DTT} {rest : List Expr}
noncomputable def Zaj (t u : DTT) : DTT := fun Δ M Φ => t Δ M fun c M1 => if c = true then u Δ M1 Φ else Φ false M1
noncomputable def dOr (t u : DTT) : DTT := fun Δ M Φ => t Δ M fun c M1 => if c = true then Φ true M1 else u Δ M1 Φ
noncomputable def Zau (t : DTT) : DTT := fun Δ M Φ => t Δ M fun c M1 => Φ (!c) M1
theorem DW.dt {e : Expr} {τ : DTT} (h : DW X e τ) : DT X e τ := by
 obtain ⟨t, p, q⟩ := h
 exact ⟨t, p.pt, q⟩
theorem Lf (ha : DT X a tA) : DW X (.BoolOp .And [a] pos) tA := by
 obtain ⟨t, p, q⟩ := ha
 exact ⟨t, HQ p, q⟩
theorem XI (ha : DT X a tA) : DW X (.BoolOp .Or [a] pos) tA := by
 obtain ⟨t, p, q⟩ := ha
 exact ⟨t, NK p, q⟩
theorem PJ (ha : DT X a tA) (hb : DW X (.BoolOp .And (b :: rest) pos) tB') : DW X (.BoolOp .And (a :: b :: rest) pos) (Zaj tA tB') := by
 obtain ⟨t, p, q⟩ := ha
 obtain ⟨u, p2, q2⟩ := hb
 refine ⟨_, Oc p p2, fun σ H Δ M Φ Q r e h k => ?_⟩
 refine q σ H Δ M _ _ r e h fun c H1 M1 r1 st hc => ?_
 cases c with
 | true => rw [if_pos rfl]; exact q2 σ H1 Δ M1 Φ Q r1 (e.step st) (by simpa using hc) fun b H2 M2 r2 st2 hb => k b H2 M2 r2 (st.trans st2) hb
 | false => rw [if_neg Bool.false_ne_true]; exact k false H1 M1 r1 st (by simpa using hc)
theorem Uv (ha : DT X a tA) (hb : DW X (.BoolOp .Or (b :: rest) pos) tB') : DW X (.BoolOp .Or (a :: b :: rest) pos) (dOr tA tB') := by
 obtain ⟨t, p, q⟩ := ha
 obtain ⟨u, p2, q2⟩ := hb
 refine ⟨_, So p p2, fun σ H Δ M Φ Q r e h k => ?_⟩
 refine q σ H Δ M _ _ r e h fun c H1 M1 r1 st hc => ?_
 cases c with
 | false => rw [if_neg Bool.false_ne_true]; exact q2 σ H1 Δ M1 Φ Q r1 (e.step st) (by simpa using hc) fun b H2 M2 r2 st2 hb => k b H2 M2 r2 (st.trans st2) hb
 | true => rw [if_pos rfl]; exact k true H1 M1 r1 st (by simpa using hc)
theorem JF (ha : DT X a tA) : DT X (.UnaryOp .Not a pos) (Zau tA) := by
 obtain ⟨t, p, q⟩ := ha
 exact ⟨_, Ny p, fun σ H Δ M Φ Q r e h k => q σ H Δ M _ _ r e h fun c H1 M1 r1 st hc => k _ H1 M1 r1 st hc⟩
noncomputable def Mi (ta tb : DTE) : DTE := fun Δ M Φ => ta Δ M fun x M1 => onB x fun c => if c = true then tb Δ M1 Φ else Φ (.dat (.bool false)) M1
noncomputable def ZbD (ta tb : DTE) : DTE := fun Δ M Φ => ta Δ M fun x M1 => onB x fun c => if c = true then Φ (.dat (.bool true)) M1 else tb Δ M1 Φ
noncomputable def N0 (ta : DTE) : DTE := fun Δ M Φ => ta Δ M fun x M1 => onB x fun c => Φ (.dat (.bool (!c))) M1
theorem J4 {bop} (h : DE X a ta) : DE X (.BoolOp bop [a] pos) ta := by
 obtain ⟨t, p, q⟩ := h
 exact ⟨t, NT p, q⟩
theorem QM (ha : DE X a ta) (hb : DE X (.BoolOp .And (b :: rest) pos) tb) : DE X (.BoolOp .And (a :: b :: rest) pos) (Mi ta tb) := by
 obtain ⟨t, p, q⟩ := ha
 obtain ⟨u, p2, q2⟩ := hb
 refine ⟨_, MY p p2, fun σ H Δ M Φ Q r e h k => ?_⟩
 refine q σ H Δ M _ _ r e h fun v H1 x M1 r1 st rv hx => ?_
 replace hx := V1 hx
 obtain ⟨c, rfl, hx⟩ := hx
 refine ⟨c, rv.bool, ?_⟩
 cases c with
 | true => rw [if_pos rfl]; exact q2 σ H1 Δ M1 Φ Q r1 (e.step st) (by simpa using hx) (k.step st)
 | false => rw [if_neg Bool.false_ne_true]; exact k.dat r1 st (Dt.bl false) (by simpa using hx)
theorem Mq (ha : DE X a ta) : DE X (.UnaryOp .Not a pos) (N0 ta) := by
 obtain ⟨t, p, q⟩ := ha
 refine ⟨_, NQ p, fun σ H Δ M Φ Q r e h k => ?_⟩
 refine q σ H Δ M _ _ r e h fun v H1 x M1 r1 st rv hx => ?_
 replace hx := V1 hx
 obtain ⟨c, rfl, hx⟩ := hx
 exact ⟨c, rv.bool, k.dat r1 st (Dt.bl (!c)) hx⟩
noncomputable def dIf (t : DTT) (ta tb : DTE) : DTE := fun Δ M Φ => t Δ M fun c M1 => if c = true then ta Δ M1 Φ else tb Δ M1 Φ
noncomputable def ZaO (g : Int → Int) (ta : DTE) : DTE := fun Δ M Φ => ta Δ M fun x M1 => onI x fun i => Φ (.dat (.int (g i))) M1
theorem Bd (ha : DE X a ta) : DE X (.UnaryOp .USub a pos) (ZaO (fun i => -i) ta) := by
 obtain ⟨t, p, q⟩ := ha
 refine ⟨_, RW MK p, fun σ H Δ M Φ Q r e h k => ?_⟩
 refine q σ H Δ M _ _ r e h fun v H1 x M1 r1 st rv hx => ?_
 replace hx := ZH hx
 obtain ⟨i, rfl, hx⟩ := hx
 exact ⟨i, rv.int, k.dat r1 st (Dt.int (-i)) hx⟩
noncomputable def δI (C : Int → Int → Prop) (g : Int → Int → PyData) : D2 := fun x y M Φ => onI x fun i => onI y fun j => C i j ∧ Φ (.dat (g i j)) M
noncomputable def δI0 (g : Int → Int → PyData) : D2 := fun x y M Φ => onI x fun i => onI y fun j => Φ (.dat (g i j)) M
theorem Pp {f : Value → Value → Sem Value} {C : Int → Int → Prop} {g : Int → Int → Int} (h : OpR X f (rI C fun i j => .int (g i j))) : OpD X f (δI C fun i j => .int (g i j)) :=
 ⟨_, h, fun v u H x y M Φ Q r rv ru h k => by
  replace h := ZH h
  obtain ⟨i, e1, h⟩ := h
  replace h := ZH h
  obtain ⟨j, e2, hc, q⟩ := h
  subst e1 e2
  exact ⟨i, j, rv.int, ru.int, hc, k.dat r Step.refl (Dt.int _) q⟩⟩
theorem N3 {f : Value → Value → Sem Value} {g : Int → Int → Int} (h : OpR X f (rI0 fun i j => .int (g i j))) : OpD X f (δI0 fun i j => .int (g i j)) :=
 ⟨_, h, fun v u H x y M Φ Q r rv ru h k => by
  replace h := ZH h
  obtain ⟨i, e1, h⟩ := h
  replace h := ZH h
  obtain ⟨j, e2, q⟩ := h
  subst e1 e2
  exact ⟨i, j, rv.int, ru.int, k.dat r Step.refl (Dt.int _) q⟩⟩
theorem CT {f : Value → Value → Sem Value} {g : Int → Int → Bool} (h : OpR X f (rI0 fun i j => .bl (g i j))) : OpD X f (δI0 fun i j => .bool (g i j)) :=
 ⟨_, h, fun v u H x y M Φ Q r rv ru h k => by
  replace h := ZH h
  obtain ⟨i, e1, h⟩ := h
  replace h := ZH h
  obtain ⟨j, e2, q⟩ := h
  subst e1 e2
  exact ⟨i, j, rv.int, ru.int, k.dat r Step.refl (Dt.bl _) q⟩⟩
theorem ZY : OpD X (binaryOp .Add) (δI0 fun i j => .int (i + j)) := N3 N6
theorem QW : OpD X (binaryOp .Sub) (δI0 fun i j => .int (i - j)) := N3 Nk
theorem QT : OpD X (binaryOp .Mult) (δI Rc fun i j => .int (i * j)) := Pp N4
theorem UO : OpD X (binaryOp .FloorDiv) (δI ZaK fun i j => .int (i / j)) := Pp Hb
theorem Ji : OpD X (binaryOp .Mod) (δI (fun _ j => 0 < j) fun i j => .int (i % j)) := Pp Mv
theorem J7 : OpD X (binaryOp .Pow) (δI RI fun i j => .int (i ^ j.toNat)) := Pp O8
theorem MR : OpD X (compareOp .Lt) (δI0 fun i j => .bool (decide (i < j))) := CT SA
theorem KI : OpD X (compareOp .LtE) (δI0 fun i j => .bool (decide (i ≤ j))) := CT S2
theorem Pg : OpD X (compareOp .Gt) (δI0 fun i j => .bool (decide (j < i))) := CT RM
theorem S4 : OpD X (compareOp .GtE) (δI0 fun i j => .bool (decide (j ≤ i))) := CT Rz
noncomputable def δB (g : Bool → Bool → Bool) : D2 := fun x y M Φ => onB x fun c => onB y fun d => Φ (.dat (.bool (g c d))) M
theorem X8 : OpD X (compareOp .IsNot) (δB fun c d => c != d) :=
 ⟨fun x y H Q => ∃ c d, x = .bl c ∧ y = .bl d ∧ Q (.bl (c != d)) H, fun pins s σ H x y v u Q I rx ry ⟨c, d, e1, e2, q⟩ => by
  subst e1 e2
  cases rx
  cases ry
  exact isnot_bool ⟨.bl _, H, I, rfl, q⟩, fun v u H x y M Φ Q r rv ru h k => by
  replace h := V1 h
  obtain ⟨c, e1, h⟩ := h
  replace h := V1 h
  obtain ⟨d, e2, q⟩ := h
  subst e1 e2
  exact ⟨c, d, rv.bool, ru.bool, k.dat r Step.refl (Dt.bl _) q⟩⟩
noncomputable def OI : D2 := fun x y M Φ => onT x fun ds => onT y fun es => ds ≠ [] ∧ ds.length + es.length ≤ sizeLine ∧ Φ (.dat (.tuple (ds ++ es))) M
noncomputable def Mt : D2 := fun x y M Φ => onL x fun ds => onL y fun es => ds.length + es.length ≤ sizeLine ∧ Φ (.dat (.list (ds ++ es))) M
noncomputable def FV : D2 := fun x y M Φ => onL x fun ds => onL y fun es => ds.length + es.length ≤ sizeLine ∧ ∀ p, M p = none → Φ (.own p) (ZE M p (.lst (ds ++ es)))
end
noncomputable def ZaV : DTA := fun _ M Φ => Φ [] M
noncomputable def Pt (ta : DTE) (tr : DTA) : DTA := fun Δ M Φ => ta Δ M fun x M1 => tr Δ M1 fun xs M2 => Φ (x :: xs) M2
section
variable {X : Cx} {e : Expr} {es : List Expr} {te : DTE} {t : DTA} {pos : Pos}
theorem Zd : DA X [] ZaV := ⟨_, Ka, fun _ H _ M _ _ r _ h k => k [] H [] M r Step.refl .nil h⟩
theorem Za (ha : DE X e te) (hr : DA X es t) (hs : starEach (e :: es) X.env = (false, eval e X.env) :: starEach es X.env := by rfl) : DA X (e :: es) (Pt te t) := by
 obtain ⟨u, p, q⟩ := ha
 obtain ⟨w, p2, q2⟩ := hr
 refine ⟨_, Jq p p2 hs, fun σ H Δ M Φ Q r e h k => ?_⟩
 refine q σ H Δ M _ _ r e h fun v H1 x M1 r1 st rv hx => ?_
 exact q2 σ H1 Δ M1 _ _ r1 (e.step st) hx fun vs H2 xs M2 r2 st2 rvs hxs => k (v :: vs) H2 (x :: xs) M2 r2 (st.trans st2) (.cons (rv.step st2) rvs) hxs
noncomputable def TK (t : DTA) : DTE := fun Δ M Φ => t Δ M fun xs M1 => Vl xs fun ds => Φ (.dat (.tuple ds)) M1
noncomputable def ZaQ (t : DTA) : DTE := fun Δ M Φ => t Δ M fun xs M1 => Vl xs fun ds => Φ (.dat (.list ds)) M1
noncomputable def OQ (t : DTA) : DTE := fun Δ M Φ => t Δ M fun xs M1 => Vl xs fun ds => ∀ p, M1 p = none → Φ (.own p) (ZE M1 p (.lst ds))
theorem QY {x1} (h : DA X es t) : DE X (.Tuple es x1 pos) (TK t) := by
 obtain ⟨u, p, q⟩ := h
 refine ⟨_, EZ p, fun σ H Δ M Φ Q r e h k => ?_⟩
 refine q σ H Δ M _ _ r e h fun vs H1 xs M1 r1 st rv hx => ?_
 replace hx := Wa hx
 obtain ⟨ds, rfl, hz', hx⟩ := hx
 have hz : ds.length ≤ sizeLine := by rw [sizeLine_eq]; omega
 have hd := rv.Ra
 refine ⟨by rw [hd.length]; exact hz, fun p hp => ?_⟩
 exact k.dat (r1.new hp) (st.trans (Step.new hp)) (Dt.Yb r1 hp hd) hx
theorem WW (h : DA X es t) : DE X (.List es pos) (ZaQ t) := by
 obtain ⟨u, p, q⟩ := h
 refine ⟨_, Wz p, fun σ H Δ M Φ Q r e h k => ?_⟩
 refine q σ H Δ M _ _ r e h fun vs H1 xs M1 r1 st rv hx => ?_
 replace hx := Wa hx
 obtain ⟨ds, rfl, hz', hx⟩ := hx
 have hz : ds.length ≤ sizeLine := by rw [sizeLine_eq]; omega
 have hd := rv.Ra
 refine ⟨by rw [hd.length]; exact hz, fun p hp => ?_⟩
 exact k.dat (r1.new hp) (st.trans (Step.new hp)) (Dt.V0 r1 hp hd) hx
theorem Kk (h : DA X es t) : DE X (.List es pos) (OQ t) := by
 obtain ⟨u, p, q⟩ := h
 refine ⟨_, Wz p, fun σ H Δ M Φ Q r e h k => ?_⟩
 refine q σ H Δ M _ _ r e h fun vs H1 xs M1 r1 st rv hx => ?_
 replace hx := Wa hx
 obtain ⟨ds, rfl, hz', hx⟩ := hx
 have hz : ds.length ≤ sizeLine := by rw [sizeLine_eq]; omega
 have hd := rv.Ra
 refine ⟨by rw [hd.length]; exact hz, fun p hp => ?_⟩
 exact k _ _ (.own p) _ (r1.XT (Step.Jj hp) hd) (st.trans (Step.Jj hp)) rfl (hx p (r1.tracked hp))
noncomputable def ZaA (t : DTE) : DTE := fun Δ M Φ => t Δ M fun x M1 => onO x fun l => Jw (M1 l) fun ds => Φ (.dat (.list ds)) (VA M1 l)
theorem Oa (h : DE X e te) : DE X e (ZaA te) := by
 obtain ⟨u, p, q⟩ := h
 refine ⟨u, p, fun σ H Δ M Φ Q r e h k => ?_⟩
 refine q σ H Δ M _ _ r e h fun v H1 x M1 r1 st rv hx => ?_
 replace hx := Q0 hx
 obtain ⟨l, rfl, hx⟩ := hx
 replace hx := JT hx
 obtain ⟨ds, hm, hx⟩ := hx
 obtain ⟨vs, e1, e2⟩ := r1.ls l ds hm
 cases (show v = .ref l from rv)
 exact k.dat r1.frz (st.trans Step.frz) (Dt.lst (.inl ⟨XJ, .inl e1⟩) (e2.step Step.frz)) hx
noncomputable def Ue : List PyData → Nat → (PyData → Prop) → Prop
 | [], _, _ => False
 | d :: _, 0, P => P d
 | _ :: r, n + 1, P => Ue r n P
noncomputable def Y3 (ds : List PyData) (i : Int) (P : PyData → Prop) : Prop := match i with
 | Int.ofNat n => Ue ds n P
 | Int.negSucc n => Ue ds.reverse n P
theorem YB : ∀ {ds : List PyData} {n : Nat} {P : PyData → Prop}, Ue ds n P → ∃ d, ds[n]? = some d ∧ P d
 | [], _, _, h => h.elim
 | d :: _, 0, _, h => ⟨d, rfl, h⟩
 | _ :: r, n + 1, _, h => by
  obtain ⟨d, e, hp⟩ := YB (ds := r) (n := n) h
  exact ⟨d, by rw [List.getElem?_cons_succ]; exact e, hp⟩
theorem Yq : ∀ {ds : List PyData} {n : Nat} {P : PyData → Prop} {d : PyData}, ds[n]? = some d → P d → Ue ds n P
 | [], _, _, _, e, _ => by simp at e
 | d :: _, 0, _, _, e, h => by simp at e; subst e; exact h
 | _ :: r, n + 1, _, _, e, h => Yq (ds := r) (n := n) (by rw [List.getElem?_cons_succ] at e; exact e) h
theorem LM {ds : List PyData} {i : Int} {P : PyData → Prop} (h : Y3 ds i P) : ∃ d, atI ds i = some d ∧ P d := by
 unfold Y3 at h
 split at h
 ·rename_i n
  replace h := YB h
  obtain ⟨d, e, hp⟩ := h
  exact ⟨d, JQ e, hp⟩
 ·rename_i n
  replace h := YB h
  obtain ⟨d, e, hp⟩ := h
  refine ⟨d, ?_, hp⟩
  have hl := (List.getElem?_eq_some_iff.mp e).1
  rw [List.length_reverse] at hl
  rw [List.getElem?_reverse hl] at e
  unfold L2.atI ixN
  have e1 : ¬ (0 ≤ Int.negSucc n) := by omega
  rw [if_neg e1]
  have e2 : -(ds.length : Int) ≤ Int.negSucc n := by omega
  rw [if_pos e2]
  have e3 : (Int.negSucc n + (ds.length : Int)).toNat = ds.length - 1 - n := by omega
  simp only [e3]
  exact e
theorem Vx {ds : List PyData} {i : Int} {P : PyData → Prop} {d : PyData} (e : atI ds i = some d) (h : P d) : Y3 ds i P := by
 unfold L2.atI at e
 cases i with
 | ofNat n =>
  have hh : ixN ds.length (Int.ofNat n) = if n < ds.length then some n else none := by
   unfold ixN
   rw [if_pos (show (0 : Int) ≤ Int.ofNat n from Int.natCast_nonneg n)]
   by_cases hn : n < ds.length
   ·rw [if_pos hn, if_pos (show Int.ofNat n < _ by show ((n : Nat) : Int) < _; omega)]
    rfl
   ·rw [if_neg hn, if_neg (show ¬ Int.ofNat n < _ by show ¬ ((n : Nat) : Int) < _; omega)]
  rw [hh] at e
  split at e
  ·exact Yq (by exact e) h
  ·cases e
 | negSucc n =>
  unfold ixN at e
  rw [if_neg (by omega)] at e
  by_cases hn : -(ds.length : Int) ≤ Int.negSucc n
  ·rw [if_pos hn] at e
   have e3 : (Int.negSucc n + (ds.length : Int)).toNat = ds.length - 1 - n := by omega
   simp only [e3] at e
   refine Yq (d := d) ?_ h
   rw [List.getElem?_reverse (by omega)]
   exact e
  ·rw [if_neg hn] at e
   cases e
theorem Bq (l : List PyData) (a : PyData) (P : PyData → Prop) : Y3 (l ++ [a]) (-1) P = P a := by
 show Ue (l ++ [a]).reverse 0 P = P a
 rw [List.reverse_append]
 rfl
noncomputable def δIx : D2 := fun x y M Φ => onQ x M fun ds => onI y fun i => Y3 ds i fun d => Φ (.dat d) M
theorem Dts.atI {K : PySem.W.Frag} {M : Mp} {H : Hp} {vs : List V} {ds : List PyData} {i : Int} {d : PyData} (h : Dts K M H vs ds) (e : L2.atI ds i = some d) : ∃ v, L2.atI vs i = some v ∧ Dt K M H v d := by
 unfold L2.atI at e ⊢
 rw [h.length]
 cases q : ixN ds.length i with
 | none => rw [q] at e; cases e
 | some j =>
  rw [q] at e
  exact h.get e
theorem Zs {a b : Expr} {ta tb : DTE} (ha : DE X a ta) (hb : DE X b tb) (hs : Kt b := by intro _ _; rfl) : DE X (.Subscript a b pos) (dOp δIx ta tb) := by
 obtain ⟨ta', pa, qa⟩ := ha
 obtain ⟨tb', pb, qb⟩ := hb
 refine ⟨_, O4 EL pa pb hs, Snd.opn qa qb fun v u H x y M Φ Q r rv ru h k => ?_⟩
 replace h := Wt h
 obtain ⟨ds, hx, h⟩ := h
 replace h := ZH h
 obtain ⟨i, rfl, h⟩ := h
 replace h := LM h
 obtain ⟨d, hd, q⟩ := h
 cases ru.int
 rcases hx with rfl | rfl | ⟨l, rfl, hm⟩
 ·obtain ⟨p, xs, rfl, h1, h2⟩ := rv.tup
  obtain ⟨w', e1, e2⟩ := h2.atI hd
  exact .inr (.inl ⟨p, xs, i, w', rfl, rfl, h1.sq, e1, k.dat r Step.refl e2 q⟩)
 ·obtain ⟨p, xs, rfl, h1, h2⟩ := rv.lst
  obtain ⟨w', e1, e2⟩ := h2.atI hd
  exact .inl ⟨p, xs, i, w', rfl, rfl, h1.sq, e1, k.dat r Step.refl e2 q⟩
 ·cases (show v = .ref l from rv)
  obtain ⟨vs, g1, g2⟩ := r.ls l ds hm
  obtain ⟨w', e1, e2⟩ := g2.atI hd
  exact .inl ⟨l, vs, i, w', rfl, rfl, SqL.of g1, e1, k.dat r Step.refl e2 q⟩
end
noncomputable abbrev D1 := List DV → Mp → DK → Prop
noncomputable def QP (X : Cx) (f : Value) (δ : D1) : Prop := ∃ r, QA X f r ∧ ∀ vs H xs M Φ Q, Zv X.K M H → Jv X.K M H vs xs → δ xs M Φ → Rch X.K M H Φ Q → r vs H Q
noncomputable def dCB (δ : D1) (t : DTA) : DTE := fun Δ M Φ => t Δ M fun xs M1 => δ xs M1 Φ
section
variable {X : Cx} {e : Expr} {es : List Expr} {t : DTA} {pos p : Pos} {x : Str} {id : String} {δ : D1}
theorem Zk (hc : QP X (.builtin id) δ) (hg : Gl X x) (hm : X.mg x = none) (hv : bootBuiltins x = some (.builtin id)) (ha : DA X (e :: es) t) (hn : x ≠ "__name__" := by decide) (hdb : (x == ("__debug__" : Str)) = false := by decide)
  (he : starEach (e :: es) X.env = (false, eval e X.env) :: starEach es X.env := by rfl) (hpl : (backTo pos (starEach es X.env)).any (·.1) = false := by rfl) : DE X (.Call (.Name x p) (e :: es) [] pos) (dCB δ t) := by
 obtain ⟨u, p, q⟩ := ha
 obtain ⟨r, hr, qr⟩ := hc
 refine ⟨_, Ws hr hg hm hv p hn hdb he hpl, fun σ H Δ M Φ Q r e h k => ?_⟩
 exact q σ H Δ M _ _ r e h fun vs H1 xs M1 r1 st rv hx => qr vs H1 xs M1 _ _ r1 rv hx (k.step st)
theorem ZL (hc : QP X (.type id) δ) (hg : Gl X x) (hm : X.mg x = none) (hv : bootBuiltins x = some (.type id)) (ha : DA X (e :: es) t) (hn : x ≠ "__name__" := by decide) (hdb : (x == ("__debug__" : Str)) = false := by decide)
  (he : starEach (e :: es) X.env = (false, eval e X.env) :: starEach es X.env := by rfl) (hpl : (backTo pos (starEach es X.env)).any (·.1) = false := by rfl) : DE X (.Call (.Name x p) (e :: es) [] pos) (dCB δ t) := by
 obtain ⟨u, p, q⟩ := ha
 obtain ⟨r, hr, qr⟩ := hc
 refine ⟨_, GC hr hg hm hv p hn hdb he hpl, fun σ H Δ M Φ Q r e h k => ?_⟩
 exact q σ H Δ M _ _ r e h fun vs H1 xs M1 r1 st rv hx => qr vs H1 xs M1 _ _ r1 rv hx (k.step st)
theorem Paired.one {α β : Type} {F : α → β → Prop} {l : List α} {b : β} (h : Paired F l [b]) : ∃ a, l = [a] ∧ F a b := by
 cases h with
 | cons h1 h2 => cases h2; exact ⟨_, rfl, h1⟩
theorem Paired.two {α β : Type} {F : α → β → Prop} {l : List α} {b c : β} (h : Paired F l [b, c]) : ∃ a a', l = [a, a'] ∧ F a b ∧ F a' c := by
 cases h with
 | cons h1 h2 =>
  obtain ⟨a, rfl, h3⟩ := Paired.one h2
  exact ⟨_, a, rfl, h1, h3⟩
noncomputable def Na : D1 := fun xs M Φ => on1 xs fun x => onQ x M fun ds => Φ (.dat (.int ds.length)) M
theorem Vj : QP X (.builtin "len") Na := by
 refine ⟨_, Xc, fun vs H xs M Φ Q r rv h k => ?_⟩
 replace h := Zm h
 obtain ⟨x, rfl, h⟩ := h
 replace h := Wt h
 obtain ⟨ds, hx, q⟩ := h
 have fin : Q (.int ds.length) H := k.dat r Step.refl (Dt.int _) q
 rcases hx with rfl | rfl | ⟨l, rfl, hm⟩
 ·obtain ⟨v, rfl, h1⟩ := Paired.one rv
  obtain ⟨p, ys, rfl, g1, g2⟩ := ZU.tup h1
  exact ⟨p, ys, rfl, .inr g1.sq, by rw [g2.length]; exact fin⟩
 ·obtain ⟨v, rfl, h1⟩ := Paired.one rv
  obtain ⟨p, ys, rfl, g1, g2⟩ := ZU.lst h1
  exact ⟨p, ys, rfl, .inl g1.sq, by rw [g2.length]; exact fin⟩
 ·obtain ⟨v, rfl, h1⟩ := Paired.one rv
  cases (show v = .ref l from h1)
  obtain ⟨ws, g1, g2⟩ := r.ls l ds hm
  exact ⟨l, ws, rfl, .inl (SqL.of g1), by rw [g2.length]; exact fin⟩
noncomputable def E8 : D1 := fun xs M Φ => on1 xs fun x => onS x fun z => z.length ≤ sizeLine ∧ Φ (.dat (.int z.length)) M
theorem Fj : QP X (.builtin "len") E8 := by
 refine ⟨_, Y4, fun vs H xs M Φ Q r rv h k => ?_⟩
 replace h := Zm h
 obtain ⟨x, rfl, h⟩ := h
 replace h := WS h
 obtain ⟨z, rfl, hz, q⟩ := h
 obtain ⟨v, rfl, h1⟩ := Paired.one rv
 exact ⟨z, by rw [ZU.str h1], hz, k.dat r Step.refl (Dt.int _) q⟩
noncomputable def E7 : D1 := fun xs M Φ => on1 xs fun x => onI x fun i => i.natAbs.log2 < 1920 ∧ Φ (.dat (.str (toString i))) M
theorem HA : QP X (.type "str") E7 := by
 refine ⟨_, Xz, fun vs H xs M Φ Q r rv h k => ?_⟩
 replace h := Zm h
 obtain ⟨x, rfl, h⟩ := h
 replace h := ZH h
 obtain ⟨i, rfl, hz, q⟩ := h
 obtain ⟨v, rfl, h1⟩ := Paired.one rv
 exact ⟨i, by rw [ZU.int h1], hz, k.dat r Step.refl (Dt.str _) q⟩
noncomputable def OU : D1 := fun xs M Φ => on1 xs fun x => onI x fun i => Φ (.dat (.int (if i < 0 then -i else i))) M
theorem GD : QP X (.builtin "abs") OU := by
 refine ⟨_, Dp, fun vs H xs M Φ Q r rv h k => ?_⟩
 replace h := Zm h
 obtain ⟨x, rfl, h⟩ := h
 replace h := ZH h
 obtain ⟨i, rfl, q⟩ := h
 obtain ⟨v, rfl, h1⟩ := Paired.one rv
 exact ⟨i, by rw [ZU.int h1], k.dat r Step.refl (Dt.int _) q⟩
noncomputable def δ2I (g : Int → Int → Int) : D1 := fun xs M Φ => on2 xs fun x y => onI x fun i => onI y fun j => Φ (.dat (.int (g i j))) M
theorem Fm (hc : X.calm = true) : QP X (.builtin "max") (δ2I fun i j => max i j) := by
 refine ⟨_, G6 hc, fun vs H xs M Φ Q r rv h k => ?_⟩
 replace h := Qr h
 obtain ⟨x, y, rfl, h⟩ := h
 replace h := ZH h
 obtain ⟨i, rfl, h⟩ := h
 replace h := ZH h
 obtain ⟨j, rfl, q⟩ := h
 obtain ⟨v, u, rfl, h1, h2⟩ := Paired.two rv
 have e : (if j > i then j else i) = max i j := by rw [Int.max_def]; split <;> split <;> omega
 exact ⟨i, j, by rw [ZU.int h1, ZU.int h2], by rw [e]; exact k.dat r Step.refl (Dt.int _) q⟩
noncomputable def WY : D1 := fun xs M Φ => on1 xs fun x => onQ x M fun ds => Φ (.dat (.list ds)) M
theorem Bz : QP X (.type "list") WY := by
 refine ⟨_, J5, fun vs H xs M Φ Q r rv h k => ?_⟩
 replace h := Zm h
 obtain ⟨x, rfl, h⟩ := h
 replace h := Wt h
 obtain ⟨ds, hx, q⟩ := h
 rcases hx with rfl | rfl | ⟨l0, rfl, hm⟩
 ·obtain ⟨v, rfl, h1⟩ := Paired.one rv
  obtain ⟨p, ys, rfl, g1, g2⟩ := ZU.tup h1
  exact ⟨p, ys, rfl, .inr g1.sq, fun l hl => k.dat (r.new hl) (Step.new hl) (Dt.V0 r hl g2) q⟩
 ·obtain ⟨v, rfl, h1⟩ := Paired.one rv
  obtain ⟨p, ys, rfl, g1, g2⟩ := ZU.lst h1
  exact ⟨p, ys, rfl, .inl g1.sq, fun l hl => k.dat (r.new hl) (Step.new hl) (Dt.V0 r hl g2) q⟩
 ·obtain ⟨v, rfl, h1⟩ := Paired.one rv
  cases (show v = .ref l0 from h1)
  obtain ⟨ws, g1, g2⟩ := r.ls l0 ds hm
  exact ⟨l0, ws, rfl, .inl (SqL.of g1), fun l hl => k.dat (r.new hl) (Step.new hl) (Dt.V0 r hl g2) q⟩
end
end DL
namespace DL
open PySem PySem.Spec PyProof.Rows L2
mutual
noncomputable def ZG : PyData → Bool
 | .none | .bool _ | .int _ | .str _ => false
 | .list _ => true
 | .tuple xs => Zq xs
 | .dict kvs => QL kvs
noncomputable def Zq : List PyData → Bool
 | [] => false
 | x :: xs => ZG x || Zq xs
noncomputable def QL : List (PyData × PyData) → Bool
 | [] => false
 | (k, v) :: r => ZG k || ZG v || QL r
end
theorem QX : ∀ (ks ds : List PyData), ks.length = ds.length → QL (ks.zip ds) = false → Zq ds = false
 | [], [], _, _ => by simp [Zq]
 | k :: ks, d :: ds, h, e => by
  rw [List.zip_cons_cons, QL] at e
  have e' : (ZG k = false ∧ ZG d = false) ∧ QL (ks.zip ds) = false := by simpa using e
  rw [Zq, e'.1.2, QX ks ds (by simpa using h) e'.2]; rfl
 | [], _ :: _, h, _ => by simp at h
 | _ :: _, [], h, _ => by simp at h
section
variable {X : Cx} {pins : List (Addr × Obj)} {σ : L2.St} {H : Hp} {s : Shared} {M : Mp}
theorem Xu {h : Heap} {P : Program} {w : World} : ∀ {es : List DictEntry} {kvs : List (Key × Value)}, Pairs (Ys P w) es kvs → ReadsAll h (es.map (·.key)) (kvs.map fun kv => kD kv.1) []
 | _, _, .nil => .nil
 | _, _, .cons (e := e) (kv := kv) h1 _ h3 => by
  rw [List.map_cons, List.map_cons]
  have hk : Reads h e.key (kD kv.1) [] := by
   rcases ZC (k := kv.1) (v := e.key) h1 with ⟨i, t, e1, e2⟩ | ⟨x, t, e1, e2⟩
   ·rw [e1, e2]; exact .int i t
   ·rw [e1, e2]; exact .str x t
  exact .cons (as := []) (bs := []) hk (Xu h3)
theorem VZ {P : Program} {w : World} : ∀ {es : List DictEntry} {kvs : List (Key × Value)}, Pairs (Ys P w) es kvs → es.map (·.val) = kvs.map (·.2)
 | _, _, .nil => rfl
 | _, _, .cons h1 h2 h3 => by rw [List.map_cons, List.map_cons, h2, VZ h3]
theorem KV.vals {kvs : List (Key × V)} {vs : List (Key × Value)} (r : KV kvs vs) : Vals (kvs.map (·.2)) (vs.map (·.2)) ∧ (kvs.map fun kv => kD kv.1) = vs.map fun kv => kD kv.1 := by
 unfold KV at r
 induction r with
 | nil => exact ⟨.nil, rfl⟩
 | cons h _ ih => exact ⟨.cons h.2 ih.1, by rw [List.map_cons, List.map_cons, h.1, ih.2]⟩
theorem Ba {h : Heap} : ∀ {ks : List Key} {us : List Value}, Vals (ks.map kV) us → ReadsAll h us (ks.map kD) []
 | [], _, r => by rw [List.map_nil] at r; cases r; exact .nil
 | k :: ks, _, r => by
  rw [List.map_cons] at r
  cases r with
  | cons r1 r2 =>
   rw [List.map_cons]
   refine .cons (as := []) (bs := []) ?_ (Ba r2)
   cases k with
   | inl i => obtain ⟨t, rfl⟩ := r1; exact .int i t
   | inr x => obtain ⟨t, rfl⟩ := r1; exact .str x t
theorem KT.read (I : Inv X pins σ H s) {kvs : List (List Key × V)} {xs : List (List Key × Addr × Value)} (r : KT H kvs xs) :
  ReadsAll s.heap (xs.map fun x => Value.ref x.2.1) (kvs.map fun kv => PyData.tuple (kv.1.map kD)) [] ∧ Vals (kvs.map (·.2)) (xs.map fun x => x.2.2) := by
 induction r with
 | nil => exact ⟨.nil, .nil⟩
 | @cons p q ps qs h _ ih =>
  obtain ⟨its, r, ⟨o, ho, hc, n, hd⟩, _⟩ := I.tuple (SqT.of (K := X.K) h.2.1)
  rw [List.map_cons, List.map_cons, List.map_cons, List.map_cons]
  exact ⟨.cons (as := []) (bs := []) (.tuple ho hc hd (by simpa using Ba r)) ih.1, .cons h.2.2 ih.2⟩
mutual
theorem Dt.reads (I : Inv X pins σ H s) : ∀ {v : V} {d : PyData}, Dt X.K M H v d → ∀ {u : Value}, RelV v u → ∃ as, Reads s.heap u d as ∧ (ZG d = false → sysModules ∉ as)
 | _, _, .non, _, r => by cases r; exact ⟨[], .none, fun _ h => nomatch h⟩
 | _, _, .bl b, _, r => by cases r; exact ⟨[], .bool b, fun _ h => nomatch h⟩
 | _, _, .int i, _, r => by obtain ⟨t, rfl⟩ := r; exact ⟨[], .int i t, fun _ h => nomatch h⟩
 | _, _, .str x, _, r => by obtain ⟨t, rfl⟩ := r; exact ⟨[], .str x t, fun _ h => nomatch h⟩
 | _, _, .tup h1 h2, _, r => by
  cases r
  obtain ⟨its, rv, ⟨o, ho, hc, n, hd⟩, _⟩ := I.tuple h1.sq
  obtain ⟨as, ra, hs⟩ := Dts.reads I h2 rv
  exact ⟨as, .tuple ho hc hd (by simpa using ra), fun h => hs (by simpa [ZG] using h)⟩
 | _, _, .lst h1 h2, _, r => by
  cases r
  obtain ⟨its, rv, ⟨o, n, ho, hc, _, hd⟩, _⟩ := I.list h1.sq
  obtain ⟨as, ra, hs⟩ := Dts.reads I h2 rv
  exact ⟨_, .list ho hc hd (by simpa using ra), fun h => by simp [ZG] at h⟩
 | _, _, .dK (a := a) (kvs := kvs) (ds := ds) h0 h1 h2, _, r => by
  cases r
  obtain ⟨_, hsys, vs, rel, o, es, ep, ho, hc, hd, _, hp, _⟩ := (show Qp X.prog X.w H s.heap a (.dK kvs) from I.hok a _ h1)
  obtain ⟨rv, hk⟩ := KV.vals rel
  obtain ⟨bs, rb, hs⟩ := Dts.reads I h2 rv
  have hl : (kvs.map fun kv => kD kv.1).length = ds.length := by rw [List.length_map, ← h2.length, List.length_map]
  refine ⟨a :: [] ++ bs, .dict (as := []) ho hc.1 hd ?_ ?_, fun h => ?_⟩
  ·rw [List.map_fst_zip (Nat.le_of_eq hl), hk]
   exact Xu hp
  ·rw [List.map_snd_zip (Nat.le_of_eq hl.symm), VZ hp]
   exact rb
  ·have h' : Zq ds = false := QX _ _ hl (by rw [ZG] at h; exact h)
   intro hm
   rcases List.mem_cons.mp hm with e | hm
   ·rw [← e] at hsys
    simp at hsys
   ·exact hs h' hm
 | _, _, .dT (a := a) (kvs := kvs) (ds := ds) h0 h1 h2, _, r => by
  cases r
  obtain ⟨_, hsys, xs, rel, o, es, ep, ho, hc, hd, he, _⟩ := (show Qp X.prog X.w H s.heap a (.dT kvs) from I.hok a _ h1)
  obtain ⟨rk, rv⟩ := KT.read I rel
  obtain ⟨bs, rb, hs⟩ := Dts.reads I h2 rv
  have hl : (kvs.map fun kv => PyData.tuple (kv.1.map kD)).length = ds.length := by rw [List.length_map, ← h2.length, List.length_map]
  refine ⟨a :: [] ++ bs, .dict (as := []) ho hc.1 hd ?_ ?_, fun h => ?_⟩
  ·rw [List.map_fst_zip (Nat.le_of_eq hl), he, List.map_map]
   exact rk
  ·rw [List.map_snd_zip (Nat.le_of_eq hl.symm), he, List.map_map]
   exact rb
  ·have h' : Zq ds = false := QX _ _ hl (by rw [ZG] at h; exact h)
   intro hm
   rcases List.mem_cons.mp hm with e | hm
   ·rw [← e] at hsys
    simp at hsys
   ·exact hs h' hm
 | _, _, .dX (a := a) (dk := dk) (d := d) h0 h1 hsys h3 h4 h5, _, r => by
  cases r
  obtain ⟨hφ, _⟩ := (show Qp X.prog X.w H s.heap a (.ext _) from I.hok a _ h1)
  obtain ⟨o, es, n, u, ho, hc, hd, ek, ev, ru⟩ := h3 s.heap hφ
  obtain ⟨as, ra, ha⟩ := Dt.reads I h4 (u := .ref _) rfl
  obtain ⟨bs, rb, hb⟩ := Dt.reads I h5 ru
  refine ⟨a :: (as ++ []) ++ (bs ++ []), .dict ho hc hd ?_ ?_, fun h => ?_⟩
  ·rw [ek]; exact .cons ra .nil
  ·rw [ev]; exact .cons rb .nil
  ·have h' : ZG dk = false ∧ ZG d = false := by simpa [ZG, QL] using h
   intro hm
   rw [List.append_nil, List.append_nil, List.cons_append] at hm
   rcases List.mem_cons.mp hm with e | hm
   ·rw [← e] at hsys
    simp at hsys
   ·rcases List.mem_append.mp hm with hm | hm
    ·exact ha h'.1 hm
    ·exact hb h'.2 hm
theorem Dts.reads (I : Inv X pins σ H s) : ∀ {vs : List V} {ds : List PyData}, Dts X.K M H vs ds → ∀ {us : List Value}, Vals vs us → ∃ as, ReadsAll s.heap us ds as ∧ (Zq ds = false → sysModules ∉ as)
 | _, _, .nil, _, r => by cases r; exact ⟨[], .nil, fun _ h => nomatch h⟩
 | _, _, .cons (d := d) (ds := ds) h1 h2, _, r => by
  cases r with
  | cons r1 r2 =>
   obtain ⟨as, ra, ha⟩ := Dt.reads I h1 r1
   obtain ⟨bs, rb, hb⟩ := Dts.reads I h2 r2
   refine ⟨as ++ bs, .cons ra rb, fun h hm => ?_⟩
   have h' : ZG d = false ∧ Zq ds = false := by simpa [Zq] using h
   rcases List.mem_append.mp hm with hm | hm
   ·exact ha h'.1 hm
   ·exact hb h'.2 hm
end
end
section
variable {X : Cx}
theorem Yf (hg : X.A.guards = some []) (hu : X.A.units + 100 < cLine) : QA X (.builtin "repr") (fun xs H Q => ∃ v d M, xs = [v] ∧ Dt X.K M H v d ∧ d.showable = true ∧ (d.hasDict && ZG d) = false ∧ d.depth ≤ 64 ∧
  d.shown.length ≤ sizeLine ∧ Q (.str d.shown) H) := by
 intro pins s σ H xs us Q I r h
 obtain ⟨v, d, M, rfl, hd, hs, hm, hdp, hz, q⟩ := h
 obtain ⟨u, rfl, ru⟩ := vals1 r
 have ref : ∀ a, u = .ref a → wpAny (model X.prog X.w) X.A (call (.builtin "repr") [u]) (EP X pins σ Q) X.xe s := fun a e => by
  obtain ⟨as, ra, hsm⟩ := hd.reads I ru
  subst e
  refine repr_of_reads' ra hs (fun hx => hsm ?_) hg (by omega) (fun _ _ e => e) (fun h' u tk k => ⟨.str d.shown, H, I.kept k, ⟨_, rfl⟩, q⟩) hz
  rw [hx, Bool.true_and] at hm
  exact hm
 cases hd with
 | non => cases ru; simp only [PyData.shown] at q; exact PySem.P.repr_of_none ⟨.str _, H, I.tok _, ⟨_, rfl⟩, q⟩
 | bl b => cases ru; simp only [PyData.shown] at q; exact PySem.P.repr_of_bool ⟨.str _, H, I.tok _, ⟨_, rfl⟩, q⟩
 | int i => obtain ⟨t, rfl⟩ := ru; simp only [PyData.shown] at q; exact PySem.P.repr_of_int (by simpa [PyData.showable] using hs) ⟨.str _, H, I.tok _, ⟨_, rfl⟩, q⟩
 | str x => obtain ⟨t, rfl⟩ := ru; simp only [PyData.shown] at q hz; exact PySem.P.repr_of_str ⟨.str _, H, I.tok _, ⟨_, rfl⟩, q⟩ hz
 | tup _ _ => exact ref _ ru
 | lst _ _ => exact ref _ ru
 | dK _ _ _ => exact ref _ ru
 | dT _ _ _ => exact ref _ ru
 | dX _ _ _ _ _ _ => exact ref _ ru
structure Shw (d : PyData) : Prop where
 s : d.showable = true
 m : (d.hasDict && ZG d) = false
 dp : d.depth ≤ 64
 z : d.shown.length ≤ sizeLine
noncomputable def E9 : D1 := fun xs M Φ => on1 xs fun x => onD x fun d => Shw d ∧ Φ (.dat (.str d.shown)) M
theorem Kr {k : Nat} (hr : J0 k X.A) : QP X (.builtin "repr") E9 := by
 refine ⟨_, Yf hr.gd (by have := hr.un; omega), fun vs H xs M Φ Q r rv h k => ?_⟩
 replace h := Zm h
 obtain ⟨x, rfl, h⟩ := h
 replace h := Qi h
 obtain ⟨d, rfl, hs, q⟩ := h
 obtain ⟨v, rfl, h1⟩ := Paired.one rv
 exact ⟨v, d, M, rfl, h1, hs.s, hs.m, hs.dp, hs.z, k.dat r Step.refl (Dt.str _) q⟩
noncomputable def tyN : PyData → String
 | .none => "NoneType"
 | .bool _ => "bool"
 | .int _ => "int"
 | .str _ => "str"
 | .list _ => "list"
 | .tuple _ => "tuple"
 | .dict _ => "dict"
theorem XM : QA X (.builtin "isinstance") (fun xs H Q => ∃ v d M T b, xs = [v, .ty T] ∧ Dt X.K M H v d ∧ PySem.W.kitOne X.K (.type (tyN d)) (.type T) = some b ∧ Q (.bl b) H) := by
 intro pins s σ H xs us Q I r h
 obtain ⟨v, d, M, T, b, rfl, hd, e, q⟩ := h
 obtain ⟨u, w', rfl, ru, rt⟩ := vals2 r
 cases (show w' = Value.type T from rt)
 have fin : ∀ tk, EP X pins σ Q (.bool b) { s with toks := tk } := fun tk => ⟨.bl b, H, I.tok tk, rfl, q⟩
 cases hd with
 | non => cases ru; exact PySem.W.kia_one PySem.W.kitx_none I.kIn True.intro e (fun z => nomatch z) fin
 | bl y => cases ru; exact PySem.W.kia_one PySem.W.kitx_bool I.kIn True.intro e (fun z => nomatch z) fin
 | int i => obtain ⟨t, rfl⟩ := ru; exact PySem.W.kia_one PySem.W.kitx_int I.kIn True.intro e (fun z => nomatch z) fin
 | str y => obtain ⟨t, rfl⟩ := ru; exact PySem.W.kia_one PySem.W.kitx_str I.kIn True.intro e (fun z => nomatch z) fin
 | tup h1 _ =>
  cases ru
  obtain ⟨_, _, ⟨o, ho, hc, _⟩, _⟩ := I.tuple h1.sq
  exact PySem.W.kia_one PySem.W.kitx_tuple I.kIn ⟨o, ho, hc⟩ e (fun z => nomatch z) fin
 | lst h1 _ =>
  cases ru
  obtain ⟨_, _, ⟨o, n, ho, hc, _⟩, _⟩ := I.list h1.sq
  exact PySem.W.kia_one PySem.W.kitx_list I.kIn ⟨o, ho, hc⟩ e (fun z => nomatch z) fin
 | dK _ h1 _ =>
  cases ru
  obtain ⟨_, _, vs, _, p⟩ := (show Qp X.prog X.w H s.heap _ (.dK _) from I.hok _ _ h1)
  obtain ⟨o, es, ep, g1, g2, _⟩ := p
  exact PySem.W.kia_one PySem.W.kitx_dict I.kIn ⟨o, g1, g2.1⟩ e (fun z => nomatch z) fin
 | dT _ h1 _ =>
  cases ru
  obtain ⟨_, _, xs, _, o, es, ep, g1, g2, _⟩ := (show Qp X.prog X.w H s.heap _ (.dT _) from I.hok _ _ h1)
  exact PySem.W.kia_one PySem.W.kitx_dict I.kIn ⟨o, g1, g2.1⟩ e (fun z => nomatch z) fin
 | dX _ h1 _ h3 _ _ =>
  cases ru
  obtain ⟨hφ, _⟩ := (show Qp X.prog X.w H s.heap _ (.ext _) from I.hok _ _ h1)
  obtain ⟨o, es, n, u, ho, hc, _⟩ := h3 s.heap hφ
  exact PySem.W.kia_one PySem.W.kitx_dict I.kIn ⟨o, ho, hc⟩ e (fun z => nomatch z) fin
noncomputable def Zl (T : String) (d : PyData) : Bool := tyN d == T || (T == "int" && tyN d == "bool")
theorem H0 (K : PySem.W.Frag) (d : PyData) : PySem.W.kitOne K (.type (tyN d)) (.type "int") = some (Zl "int" d) := by cases d <;> rfl
theorem CW (K : PySem.W.Frag) (d : PyData) : PySem.W.kitOne K (.type (tyN d)) (.type "bool") = some (Zl "bool" d) := by cases d <;> rfl
theorem kit_tuple (K : PySem.W.Frag) (d : PyData) : PySem.W.kitOne K (.type (tyN d)) (.type "tuple") = some (Zl "tuple" d) := by cases d <;> rfl
theorem Dh (K : PySem.W.Frag) (d : PyData) : PySem.W.kitOne K (.type (tyN d)) (.type "list") = some (Zl "list" d) := by cases d <;> rfl
noncomputable def LJ (T : String) : D1 := fun xs M Φ => match xs with | [.dat d, .ty t] => t = T ∧ Φ (.dat (.bool (Zl T d))) M | _ => False
theorem Ke {T : String} (ht : ∀ d, PySem.W.kitOne X.K (.type (tyN d)) (.type T) = some (Zl T d)) : QP X (.builtin "isinstance") (LJ T) := by
 refine ⟨_, XM, fun vs H xs M Φ Q r rv h k => ?_⟩
 replace h : ∃ d, xs = [.dat d, .ty T] ∧ Φ (.dat (.bool (Zl T d))) M := by
  unfold LJ at h
  split at h
  ·exact ⟨_, by rw [h.1], h.2⟩
  ·exact h.elim
 obtain ⟨d, rfl, q⟩ := h
 obtain ⟨v, u, rfl, h1, h2⟩ := Paired.two rv
 cases (show u = .ty T from h2)
 exact ⟨v, d, M, T, _, rfl, h1, ht d, k.dat r Step.refl (Dt.bl _) q⟩
theorem EG (hu : X.A.units + 64 < cLine) : OpR X (compareOp .Eq) (fun x y H Q => ∃ M d e, Dt X.K M H x d ∧ Dt X.K M H y e ∧ d.canLay0 = true ∧ e.canLay0 = true ∧ min d.depth e.depth ≤ 64 ∧ Q (.bl (PyData.eqv d e)) H) := by
 intro pins s σ H x y v u Q I rx ry h
 obtain ⟨M, d, e, h1, h2, c1, c2, hdp, q⟩ := h
 obtain ⟨as, ra, _⟩ := h1.reads I rx
 obtain ⟨bs, rb, _⟩ := h2.reads I ry
 exact PySem.SeqAt.compareEq_reads ra rb c1 c2 (by omega) ⟨.bl _, H, I, rfl, q⟩
theorem NI (hu : X.A.units + 64 < cLine) : OpR X (compareOp .NotEq) (fun x y H Q => ∃ M d e, Dt X.K M H x d ∧ Dt X.K M H y e ∧ d.canLay0 = true ∧ e.canLay0 = true ∧ min d.depth e.depth ≤ 64 ∧ Q (.bl (!PyData.eqv d e)) H) := by
 intro pins s σ H x y v u Q I rx ry h
 obtain ⟨M, d, e, h1, h2, c1, c2, hdp, q⟩ := h
 obtain ⟨as, ra, _⟩ := h1.reads I rx
 obtain ⟨bs, rb, _⟩ := h2.reads I ry
 exact PySem.SeqAt.compareNe_reads ra rb c1 c2 (by omega) ⟨.bl _, H, I, rfl, q⟩
noncomputable def Ew (d e : PyData) : Bool := d.canLay0 && e.canLay0 && Nat.ble (min d.depth e.depth) 64
noncomputable def eqD : PyData → PyData → (Bool → Prop) → Prop
 | .int i, .int j, P => P (decide (i = j))
 | .str s, .str t, P => P (decide (s = t))
 | .bool a, .bool b, P => P (a == b)
 | d, e, P => Ew d e = true ∧ P (PyData.eqv d e)
theorem E5 {d e : PyData} {P : Bool → Prop} (h : eqD d e P) : (d.canLay0 = true ∧ e.canLay0 = true ∧ min d.depth e.depth ≤ 64 ∧ P (PyData.eqv d e)) ∨ ∃ s t, d = .str s ∧ e = .str t ∧ P (decide (s = t)) := by
 unfold eqD at h
 split at h
 ·refine .inl ⟨by simp [PyData.canLay0], by simp [PyData.canLay0], by simp [PyData.depth], ?_⟩
  simp only [PyData.eqv]
  rw [Bool.beq_eq_decide_eq]
  exact h
 ·exact .inr ⟨_, _, rfl, rfl, h⟩
 ·refine .inl ⟨by simp [PyData.canLay0], by simp [PyData.canLay0], by simp [PyData.depth], ?_⟩
  simp only [PyData.eqv]
  exact h
 ·have h1 := h.1
  unfold Ew at h1
  simp only [Bool.and_eq_true] at h1
  exact .inl ⟨h1.1.1, h1.1.2, Nat.le_of_ble_eq_true h1.2, h.2⟩
theorem Mo {f : Value → Value → Sem Value} {r1 r2 : R2} (h1 : OpR X f r1) (h2 : OpR X f r2) : OpR X f (fun x y H Q => r1 x y H Q ∨ r2 x y H Q) :=
 fun pins s σ H x y v u Q I rx ry h => h.elim (h1 pins s σ H x y v u Q I rx ry) (h2 pins s σ H x y v u Q I rx ry)
noncomputable def δEq : D2 := fun x y M Φ => onD x fun d => onD y fun e => eqD d e fun b => Φ (.dat (.bool b)) M
noncomputable def δNe : D2 := fun x y M Φ => onD x fun d => onD y fun e => eqD d e fun b => Φ (.dat (.bool (!b))) M
theorem Fl {k : Nat} (hr : J0 k X.A) : OpD X (compareOp .Eq) δEq :=
 ⟨_, Mo (EG hr.units) Sr, fun v u H x y M Φ Q r rv ru h k => by
  obtain ⟨d, e1, h⟩ := Qi h
  obtain ⟨e, e2, h⟩ := Qi h
  subst e1 e2
  rcases E5 h with ⟨c1, c2, hdp, q⟩ | ⟨s, t, rfl, rfl, q⟩
  ·exact .inl ⟨M, d, e, rv, ru, c1, c2, hdp, k.dat r Step.refl (Dt.bl _) q⟩
  ·have q' : Q (.bl (decide (s = t))) H := k.dat r Step.refl (Dt.bl _) q
   refine .inr ⟨by rw [rv.str, ru.str]; rfl, ?_⟩
   rw [rv.str, ru.str, VO, Bool.beq_eq_decide_eq]
   exact q'⟩
theorem SV {k : Nat} (hr : J0 k X.A) : OpD X (compareOp .NotEq) δNe :=
 ⟨_, Mo (NI hr.units) P0, fun v u H x y M Φ Q r rv ru h k => by
  obtain ⟨d, e1, h⟩ := Qi h
  obtain ⟨e, e2, h⟩ := Qi h
  subst e1 e2
  rcases E5 h with ⟨c1, c2, hdp, q⟩ | ⟨s, t, rfl, rfl, q⟩
  ·exact .inl ⟨M, d, e, rv, ru, c1, c2, hdp, k.dat r Step.refl (Dt.bl _) q⟩
  ·have q' : Q (.bl (!decide (s = t))) H := k.dat r Step.refl (Dt.bl _) q
   refine .inr ⟨by rw [rv.str, ru.str]; rfl, ?_⟩
   rw [rv.str, ru.str, VO, Bool.beq_eq_decide_eq]
   exact q'⟩
noncomputable def MS : D2 := fun x y M Φ => onS x fun s => onS y fun t => Φ (.dat (.bool (!decide (s = t)))) M
theorem Pb : OpD X (compareOp .NotEq) MS :=
 ⟨_, P0, fun v u H x y M Φ Q r rv ru h k => by
  obtain ⟨s, e1, h⟩ := WS h
  obtain ⟨t, e2, q⟩ := WS h
  subst e1 e2
  have q' : Q (.bl (!decide (s = t))) H := k.dat r Step.refl (Dt.bl _) q
  refine ⟨by rw [rv.str, ru.str]; rfl, ?_⟩
  rw [rv.str, ru.str, VO, Bool.beq_eq_decide_eq]
  exact q'⟩
noncomputable def Tb : D2 := fun x y M Φ => onS x fun s => onS y fun t => Φ (.dat (.bool (decide (s = t)))) M
noncomputable abbrev DTO := DSt → Mp → (Option Int → Mp → Prop) → Prop
noncomputable def DO (X : Cx) (e : Option Expr) (τ : DTO) : Prop := ∃ t, PO X e t ∧ ∀ σ H Δ M Φ (Q : Option Int → Hp → Prop), Zv X.K M H → Qu X.K M H σ Δ → τ Δ M Φ → (∀ o H' M', Zv X.K M' H' → Step M H M' H' → Φ o M' → Q o H') → t σ H Q
noncomputable def Bj : DTO := fun _ M Φ => Φ none M
noncomputable def MU (t : DTE) : DTO := fun Δ M Φ => t Δ M fun x M1 => onI x fun i => Φ (some i) M1
theorem YG : DO X none Bj := ⟨_, Ln, fun _ H _ M _ _ r _ h k => k none H M r Step.refl h⟩
theorem Yn {e : Expr} {te : DTE} (h : DE X e te) : DO X (some e) (MU te) := by
 obtain ⟨t, p, q⟩ := h
 refine ⟨_, HU p, fun σ H Δ M Φ Q r e h k => ?_⟩
 refine q σ H Δ M _ _ r e h fun v H1 x M1 r1 st rv hx => ?_
 replace hx := ZH hx
 obtain ⟨i, rfl, hx⟩ := hx
 exact ⟨i, rv.int, k _ H1 M1 r1 st hx⟩
noncomputable def cutD (xs : List PyData) (lo hi : Option Int) : List PyData := (xs.drop (HT.sIx xs.length 0 lo)).take (HT.sIx xs.length xs.length hi - HT.sIx xs.length 0 lo)
theorem Dts.cut {K : PySem.W.Frag} {M : Mp} {H : Hp} {vs : List V} {ds : List PyData} (h : Dts K M H vs ds) (lo hi : Option Int) : Dts K M H (FH vs lo hi) (cutD ds lo hi) := by
 unfold FH cutD
 rw [h.length]
 exact (h.drop _).take _
noncomputable def Zcb (te : DTE) (tl th : DTO) : DTE := fun Δ M Φ => te Δ M fun x M1 => tl Δ M1 fun l M2 => th Δ M2 fun u M3 => onT x fun ds => ¬ (HT.sIx ds.length 0 l = 0 ∧ HT.sIx ds.length ds.length u = ds.length) ∧ Φ (.dat (.tuple (cutD ds l u))) M3
end
end DL
namespace DL
open PySem PySem.Spec PyProof.Rows L2
noncomputable def Nb : DTS := fun D Δ M => D.nx Δ M
noncomputable def Rj (t u : DTS) : DTS := fun D Δ M => t { D with nx := u D } Δ M
section
variable {X : Cx} {st : Stmt} {rest : List Stmt} {t u : DTS} {e : Expr} {te : DTE} {pos : Pos}
theorem Z0 : DSs X [] Nb := ⟨_, Fh, fun σ H Δ M D E r e h k => k.nx σ H Δ M r Step.refl e h⟩
theorem Zf (h1 : DS X st t) (h2 : DSs X rest u) : DSs X (st :: rest) (Rj t u) := by
 obtain ⟨t1, p1, q1⟩ := h1
 obtain ⟨t2, p2, q2⟩ := h2
 refine ⟨_, CD p1 p2, fun σ H Δ M D E r e h k => ?_⟩
 refine q1 σ H Δ M { D with nx := u D } { E with nx := t2 E } r e h ⟨fun σ' H' Δ' M' r' st' e' hn => ?_, k.rt, k.bk, k.ct⟩
 exact q2 σ' H' Δ' M' D E r' e' hn (k.step st')
theorem Zi (h1 : DS X st t) : DSs X [st] t := by
 obtain ⟨t1, p1, q1⟩ := h1
 exact ⟨_, FL p1, q1⟩
noncomputable def O5 : DTS := fun D Δ M => D.bk Δ M
noncomputable def Ss : DTS := fun D Δ M => D.ct Δ M
noncomputable def OC (te : DTE) : DTS := fun D Δ M => te Δ M fun _ M1 => D.nx Δ M1
theorem Jo (he : DE X e te) (hs : swapsWith e none pos.line X.env = pure false := by rfl) : DS X (.Expr e pos) (OC te) := by
 obtain ⟨t, p, q⟩ := he
 refine ⟨_, HW p hs, fun σ H Δ M D E r e h k => ?_⟩
 exact q σ H Δ M _ _ r e h fun v H1 x M1 r1 st rv hx => k.nx σ H1 Δ M1 r1 st (e.step st) hx
noncomputable def TX (te : DTE) : DTS := fun D Δ M => te Δ M D.rt
theorem Zz (he : DE X e te) : DS X (.Return (some e) pos) (TX te) := by
 obtain ⟨t, p, q⟩ := he
 exact ⟨_, Oo p, fun σ H Δ M D E r e h k => q σ H Δ M _ _ r e h k.rt⟩
noncomputable def SJ : DTS := fun D _ M => D.rt (.dat .none) M
noncomputable def ZaW (c : DTT) (t u : DTS) : DTS := fun D Δ M => c Δ M fun b M1 => if b = true then t D Δ M1 else u D Δ M1
theorem Jx {c : Expr} {a b : List Stmt} {tc : DTT} (hc : DT X c tc) (ha : DSs X a t) (hb : DSs X b u) : DS X (.If c a b pos) (ZaW tc t u) := by
 obtain ⟨t0, p0, q0⟩ := hc
 obtain ⟨t1, p1, q1⟩ := ha
 obtain ⟨t2, p2, q2⟩ := hb
 refine ⟨_, S3 p0 p1 p2, fun σ H Δ M D E r e h k => ?_⟩
 refine q0 σ H Δ M _ _ r e h fun c H1 M1 r1 st hc => ?_
 cases c with
 | true => rw [if_pos rfl]; exact q1 σ H1 Δ M1 D E r1 (e.step st) (by simpa using hc) (k.step st)
 | false => rw [if_neg Bool.false_ne_true]; exact q2 σ H1 Δ M1 D E r1 (e.step st) (by simpa using hc) (k.step st)
noncomputable abbrev DTG := DV → DSt → Mp → (DSt → Mp → Prop) → Prop
noncomputable abbrev BN := List DV → DSt → Mp → (DSt → Mp → Prop) → Prop
noncomputable def DG (X : Cx) (tg : Expr) (τ : DTG) : Prop := ∃ t, PG X tg t ∧ ∀ v σ H x Δ M Φ (Q : L2.St → Hp → Prop), Zv X.K M H → Qu X.K M H σ Δ → ZU X.K M H v x → τ x Δ M Φ →
 (∀ σ' H' Δ' M', Zv X.K M' H' → Step M H M' H' → Qu X.K M' H' σ' Δ' → Φ Δ' M' → Q σ' H') → t v σ H Q
noncomputable def DGs (X : Cx) (ts : List Expr) (τ : BN) : Prop := ∃ t, PGs X ts t ∧ ∀ vs σ H xs Δ M Φ (Q : L2.St → Hp → Prop), Zv X.K M H → Qu X.K M H σ Δ → Jv X.K M H vs xs → τ xs Δ M Φ →
 (∀ σ' H' Δ' M', Zv X.K M' H' → Step M H M' H' → Qu X.K M' H' σ' Δ' → Φ Δ' M' → Q σ' H') → t vs σ H Q
noncomputable def XD (i : Nat) : DTG := fun x Δ M Φ => Φ (Δ.set i (some x)) M
theorem ZR (i : Nat) {x : Str} (hN : X.N.Nodup) (hi : X.N[i]? = some x := by rfl) (hx : Loc X.env.scope x := by first | exact Or.inl rfl | exact Or.inr rfl) (hf : X.fn x = true ∨ X.env.scope.names.lookup x = some .local := by first | exact .inl rfl | exact .inr rfl | assumption) :
  DG X (.Name x pos) (XD i) :=
 ⟨_, Bf hN hi hx hf, fun v σ H x Δ M Φ Q r e rv h k => k _ H _ M r Step.refl (e.set rv) h⟩
noncomputable def Nf : BN := fun xs Δ M Φ => match xs with | [] => Φ Δ M | _ => False
noncomputable def E4 (t : DTG) (u : BN) : BN := fun xs Δ M Φ => match xs with | x :: r => t x Δ M fun Δ' M' => u r Δ' M' Φ | [] => False
theorem Y0 : DGs X [] Nf := ⟨_, HF, fun vs σ H xs Δ M Φ Q r e rv h k => by
 cases xs with
 | cons x r => exact h.elim
 | nil =>
 have h2 : Φ Δ M := h
 cases rv
 exact ⟨rfl, k σ H Δ M r Step.refl e h2⟩⟩
theorem Qz {es : List Expr} {t : DTG} {u : BN} (h1 : DG X e t) (h2 : DGs X es u)
  (hs : (assignEach (e :: es) X.env).map (·.2) = assign e X.env :: (assignEach es X.env).map (·.2) := by rfl) : DGs X (e :: es) (E4 t u) := by
 obtain ⟨t1, p1, q1⟩ := h1
 obtain ⟨t2, p2, q2⟩ := h2
 refine ⟨_, Ck p1 p2 hs, fun vs σ H xs Δ M Φ Q r e rv h k => ?_⟩
 obtain ⟨x, xr, e1, h⟩ : ∃ x xr, xs = x :: xr ∧ t x Δ M fun Δ' M' => u xr Δ' M' Φ := by
  cases xs with
  | nil => exact h.elim
  | cons x xr => exact ⟨x, xr, rfl, h⟩
 subst e1
 cases rv with
 | cons ra rr =>
  refine ⟨_, _, rfl, q1 _ σ H x Δ M _ _ r e ra h fun σ' H' Δ' M' r' st e' h' => ?_⟩
  exact q2 _ σ' H' xr Δ' M' Φ Q r' e' (Jv.step rr st) h' fun σ2 H2 Δ2 M2 r2 st2 e2 hΦ => k σ2 H2 Δ2 M2 r2 (st.trans st2) e2 hΦ
noncomputable def ER : Nat → List PyData → (List DV → Prop) → Prop
 | 0, [], P => P []
 | n + 1, d :: r, P => ER n r fun xs => P (.dat d :: xs)
 | 0, _ :: _, _ => False
 | _ + 1, [], _ => False
theorem GN : ∀ {n : Nat} {ds : List PyData} {P : List DV → Prop}, ER n ds P → ds.length = n ∧ P (ds.map DV.dat)
 | 0, [], _, h => ⟨rfl, h⟩
 | n + 1, d :: r, P, h => by
  obtain ⟨a, b⟩ := GN (n := n) (ds := r) h
  exact ⟨by rw [List.length_cons, a], b⟩
 | 0, _ :: _, _, h => h.elim
 | _ + 1, [], _, h => h.elim
noncomputable def PV (n : Nat) (t : BN) : DTG := fun x Δ M Φ => onT x fun ds => ER n ds fun xs => t xs Δ M Φ
theorem Dts.Ni {K : PySem.W.Frag} {M : Mp} {H : Hp} : ∀ {vs : List V} {ds : List PyData}, Dts K M H vs ds → Jv K M H vs (ds.map DV.dat)
 | _, _, .nil => .nil
 | _, _, .cons h1 h2 => .cons h1 (Dts.Ni h2)
theorem WM {es : List Expr} {k : Nat} {t : BN} {n : Nat} (hc : X.calm = true) (h : DGs X es t) (hn : (assignEach es X.env).length = n := by rfl) (hst : (assignEach es X.env).findIdx? (·.1) = none := by rfl) : DG X (.Tuple es k pos) (PV n t) := by
 obtain ⟨t1, p1, q1⟩ := h
 refine ⟨_, Nd hc p1 hn hst, fun v σ H x Δ M Φ Q r e rv h k => ?_⟩
 replace h := VN h
 obtain ⟨ds, rfl, h⟩ := h
 replace h := GN h
 obtain ⟨hl, h⟩ := h
 obtain ⟨a, xs, rfl, h1, h2⟩ := rv.tup
 exact ⟨a, xs, rfl, h1.sq, by rw [h2.length]; exact hl, q1 xs σ H _ Δ M Φ Q r e h2.Ni h k⟩
noncomputable def Np (to ti : DTE) : DTG := fun x Δ M Φ => to Δ M fun o M1 => ti Δ M1 fun i M2 => onO o fun l => onI i fun k => onD x fun d => Jw (M2 l) fun ds => ∃ j, ixN ds.length k = some j ∧ Φ Δ (ZE M2 l (.lst (ds.set j d)))
theorem BD {o i : Expr} {to ti : DTE} (ho : DE X o to) (hi : DE X i ti)
  (ha : ∀ v, assign (.Subscript o i pos) X.env v = (do
   let ov ← holding [v] (eval o X.env)
   let iv ← holding [v, ov] (eval i X.env)
   standAt pos
   holding [v, ov, iv] (setItem ov iv v)
   release [v, ov, iv] []) := by intro _; rfl) : DG X (.Subscript o i pos) (Np to ti) := by
 obtain ⟨t1, p1, q1⟩ := ho
 obtain ⟨t2, p2, q2⟩ := hi
 refine ⟨_, O7 p1 p2 set_list ha, fun v σ H x Δ M Φ Q r e rv h k => ?_⟩
 refine Snd.bin q1 q2 r e h fun w1 w2 H2 o' i' M2 r2 st ro ri hs => ?_
 replace hs := Q0 hs
 obtain ⟨l, rfl, hs⟩ := hs
 replace hs := ZH hs
 obtain ⟨kk, rfl, hs⟩ := hs
 replace hs := Qi hs
 obtain ⟨d, rfl, hs⟩ := hs
 replace hs := JT hs
 obtain ⟨ds, hm, j, hj, hΦ⟩ := hs
 obtain ⟨vs, g1, g2⟩ := r2.ls l ds hm
 cases (show w1 = .ref l from ro)
 have rv2 : Dt X.K M2 H2 v d := Dt.step st rv
 have st2 : Step M2 H2 (ZE M2 l (.lst (ds.set j d))) (upd H2 l (.lst (vs.set j v))) := Step.Wq hm
 refine ⟨l, vs, kk, j, rfl, ri.int, g1, by rw [g2.length]; exact hj, ?_⟩
 exact k σ _ Δ _ (r2.XT st2 (g2.set rv2 j)) (st.trans st2) (e.step (st.trans st2)) hΦ
noncomputable def MM (te : DTE) (g : DTG) : DTS := fun D Δ M => te Δ M fun x M1 => g x Δ M1 D.nx
theorem Xl {tg : Expr} {g : DTG} (he : DE X e te) (hg : DG X tg g) (hs : swapsWithSole [tg] e pos.line X.env = pure false := by rfl) (hw : swappedStores [tg] e X.env = pure none := by rfl)
  (h1 : (assignEach [tg] X.env).map (·.2) = [assign tg X.env] := by rfl) : DS X (.Assign [tg] e pos) (MM te g) := by
 obtain ⟨t1, p1, q1⟩ := he
 obtain ⟨t2, p2, q2⟩ := hg
 refine ⟨_, Pu p1 p2 hs hw h1, fun σ H Δ M D E r e h k => ?_⟩
 refine q1 σ H Δ M _ _ r e h fun v H1 x M1 r1 st rv hx => ?_
 exact q2 v σ H1 x Δ M1 _ _ r1 (e.step st) rv hx fun σ' H' Δ' M' r' st' e' hn => k.nx σ' H' Δ' M' r' (st.trans st') e' hn
theorem ZK (i : Nat) {x : Str} {pos' : Pos} (hN : X.N.Nodup) (he : DE X e te) (hi : X.N[i]? = some x := by rfl) (hx : Loc X.env.scope x := by first | exact Or.inl rfl | exact Or.inr rfl) (hs : swapsWith e (some (.Name x pos')) pos.line X.env = pure false := by rfl)
  (hf : X.fn x = true ∨ X.env.scope.names.lookup x = some .local := by first | exact .inl rfl | exact .inr rfl | assumption) : DS X (.Assign [.Name x pos'] e pos) (MM te (XD i)) := by
 obtain ⟨t1, p1, q1⟩ := he
 refine ⟨_, MJ hN hi hx p1 hs hf, fun σ H Δ M D E r e h k => ?_⟩
 refine q1 σ H Δ M _ _ r e h fun v H1 x M1 r1 st rv hx => ?_
 exact k.nx _ H1 _ M1 r1 st ((e.step st).set rv) hx
noncomputable def GG (to te : DTE) : DTE := fun Δ M Φ => to Δ M fun x M1 => onO x fun l => Jw (M1 l) fun _ => te Δ M1 fun y M2 => onD y fun d => Jw (M2 l) fun ds => ds.length < sizeLine ∧ Φ (.dat .none) (ZE M2 l (.lst (ds ++ [d])))
theorem Kb {o : Expr} {to : DTE} {apos cpos : Pos} (ho : DE X o to) (he : DE X e te) (hbase : attributeBase o "append" X.env (eval o X.env) = eval o X.env := by rfl)
  (hfew : ((backTo cpos (starEach [e] X.env)).all (fun x => !x.1) && (backToKw cpos (keywordEach [] X.env)).all (fun x => x.1.isSome)
   && decide ([e].length + ([] : List Keyword).length + (if ([] : List Keyword).isEmpty then 0 else 1) < 30)) = true := by rfl)
  (hline : (apos.endLine == cpos.line) = true := by rfl) (hs : starEach [e] X.env = (false, eval e X.env) :: starEach [] X.env := by rfl) (hplain : (backTo cpos (starEach [] X.env)).any (·.1) = false := by rfl) :
  DE X (.Call (.Attribute o "append" apos) [e] [] cpos) (GG to te) := by
 obtain ⟨t1, p1, q1⟩ := ho
 obtain ⟨t2, p2, q2⟩ := he
 refine ⟨_, Mf PySem.F.plainAttrs_list PySem.F.slot_list_append PySem.F.type_list_append Kd p1 (Jq p2 Ka hs) hbase hfew hline hs hplain, fun σ H Δ M Φ Q r e h k => ?_⟩
 refine q1 σ H Δ M _ _ r e h fun v H1 x M1 r1 st rv hx => ?_
 replace hx := Q0 hx
 obtain ⟨l, rfl, hx⟩ := hx
 replace hx := JT hx
 obtain ⟨oo, ho, hx⟩ := hx
 cases (show v = .ref l from rv)
 have ty : tyV X.K "list" (.ref l) H1 := by
  obtain ⟨vs, g1, _⟩ := r1.ls l oo ho
  exact .inl ⟨rfl, vs, SqL.of g1⟩
 refine ⟨ty, q2 σ H1 Δ M1 _ _ r1 (e.step st) hx fun w H2 y M2 r2 st2 rw2 hy => ?_⟩
 replace hy := Qi hy
 obtain ⟨d, rfl, hy⟩ := hy
 replace hy := JT hy
 obtain ⟨ds, hm, hz, hy⟩ := hy
 obtain ⟨vs, g1, g2⟩ := r2.ls l ds hm
 have st3 : Step M2 H2 (ZE M2 l (.lst (ds ++ [d]))) (upd H2 l (.lst (vs ++ [w]))) := Step.Wq hm
 refine ⟨l, vs, w, rfl, rfl, g1, by rw [g2.length]; exact hz, ?_⟩
 exact k.dat (r2.XT st3 (g2.append (.cons rw2 .nil))) (st.trans (st2.trans st3)) Dt.non hy
end
section
variable {X : Cx} {tg iter : Expr} {body : List Stmt} {g : DTG} {tb : DTS} {pos : Pos}
noncomputable def GV (g : DTG) (tb : DTS) (D : Z1) (ds : List PyData) (Δ : DSt) (M : Mp) : Prop :=
 ∃ J : Nat → DSt → Mp → Prop, J 0 Δ M ∧ (∀ i d Δ M, ds[i]? = some d → J i Δ M → g (.dat d) Δ M fun Δ2 M2 => tb { D with nx := J (i + 1), ct := J (i + 1), bk := D.nx } Δ2 M2) ∧ ∀ Δ M, J ds.length Δ M → D.nx Δ M
noncomputable def PH (te : DTE) (g : DTG) (tb : DTS) : DTS := fun D Δ M => te Δ M fun x M1 => onL x fun ds => GV g tb D ds Δ M1
noncomputable def Pq (te : DTE) (g : DTG) (tb : DTS) : DTS := fun D Δ M => te Δ M fun x M1 => onT x fun ds => GV g tb D ds Δ M1
theorem Lb {te : DTE} (he : DE X iter te) (hg : DG X tg g) (hb : DSs X body tb) (hp : PassesOwn (model X.prog X.w) X.A X.env X.xe) (hc : X.calm = true) (hs : ∀ x, foldedSetIterable iter X.env x = pure x := by intro _; rfl) :
  DS X (.For tg iter body [] pos) (PH te g tb) := by
 obtain ⟨t1, p1, q1⟩ := he
 obtain ⟨t2, p2, q2⟩ := hg
 obtain ⟨t3, p3, q3⟩ := hb
 refine ⟨_, WK hp hc (Fv p1) p2 p3 hs, fun σ H Δ M D E r e h k => ?_⟩
 refine q1 σ H Δ M _ _ r e h fun v H1 x M1 r1 st rv hx => ?_
 replace hx := MF hx
 obtain ⟨ds, rfl, J, j0, jt, jd⟩ := hx
 obtain ⟨a, xs, rfl, h1, h2⟩ := rv.lst
 refine ⟨a, rfl, ⟨xs, h1.sq⟩, CP (xs := xs) (fun i σ H => ∃ Δ M, Zv X.K M H ∧ Step M1 H1 M H ∧ Qu X.K M H σ Δ ∧ J i Δ M) ⟨Δ, M1, r1, Step.refl, e.step st, j0⟩
  (fun i σ H _ ⟨Δ, M, _, st', _, _⟩ => (h1.step st').sq) (fun i y σ H hi ⟨Δ, M, r', st', e', j⟩ => ?_) (fun σ H ⟨Δ, M, r', st', e', j⟩ => ?_)⟩
 ·obtain ⟨d, hd, hy⟩ := h2.L5 hi
  refine q2 y σ H (.dat d) Δ M _ _ r' e' (Dt.step st' hy) (jt i d Δ M hd j) fun σ2 H2 Δ2 M2 r2 st2 e2 hb2 => ?_
  refine q3 σ2 H2 Δ2 M2 _ _ r2 e2 hb2 ?_
  have s12 : Step M1 H1 M2 H2 := st'.trans st2
  exact ⟨fun σ' H' Δ' M' a b c d => ⟨Δ', M', a, s12.trans b, c, d⟩, k.rt.step (st.trans s12), fun σ' H' Δ' M' a b c d => k.nx σ' H' Δ' M' a ((st.trans s12).trans b) c d,
   fun σ' H' Δ' M' a b c d => ⟨Δ', M', a, s12.trans b, c, d⟩⟩
 ·rw [h2.length] at j
  exact k.nx σ H Δ M r' (st.trans st') e' (jd Δ M j)
theorem HD {te : DTE} (he : DE X iter te) (hg : DG X tg g) (hb : DSs X body tb) (hp : PassesOwn (model X.prog X.w) X.A X.env X.xe) (hc : X.calm = true) (hs : ∀ x, foldedSetIterable iter X.env x = pure x := by intro _; rfl) :
  DS X (.For tg iter body [] pos) (Pq te g tb) := by
 obtain ⟨t1, p1, q1⟩ := he
 obtain ⟨t2, p2, q2⟩ := hg
 obtain ⟨t3, p3, q3⟩ := hb
 refine ⟨_, WK hp hc (E2 p1) p2 p3 hs, fun σ H Δ M D E r e h k => ?_⟩
 refine q1 σ H Δ M _ _ r e h fun v H1 x M1 r1 st rv hx => ?_
 replace hx := VN hx
 obtain ⟨ds, rfl, J, j0, jt, jd⟩ := hx
 obtain ⟨a, xs, rfl, h1, h2⟩ := rv.tup
 refine ⟨a, rfl, ⟨xs, h1.sq⟩, LL (xs := xs) (fun i σ H => ∃ Δ M, Zv X.K M H ∧ Step M1 H1 M H ∧ Qu X.K M H σ Δ ∧ J i Δ M) ⟨Δ, M1, r1, Step.refl, e.step st, j0⟩
  (fun i σ H _ ⟨Δ, M, _, st', _, _⟩ => (h1.step st').sq) (fun i y σ H hi ⟨Δ, M, r', st', e', j⟩ => ?_) (fun σ H ⟨Δ, M, r', st', e', j⟩ => ?_)⟩
 ·obtain ⟨d, hd, hy⟩ := h2.L5 hi
  refine q2 y σ H (.dat d) Δ M _ _ r' e' (Dt.step st' hy) (jt i d Δ M hd j) fun σ2 H2 Δ2 M2 r2 st2 e2 hb2 => ?_
  refine q3 σ2 H2 Δ2 M2 _ _ r2 e2 hb2 ?_
  have s12 : Step M1 H1 M2 H2 := st'.trans st2
  exact ⟨fun σ' H' Δ' M' a b c d => ⟨Δ', M', a, s12.trans b, c, d⟩, k.rt.step (st.trans s12), fun σ' H' Δ' M' a b c d => k.nx σ' H' Δ' M' a ((st.trans s12).trans b) c d,
   fun σ' H' Δ' M' a b c d => ⟨Δ', M', a, s12.trans b, c, d⟩⟩
 ·rw [h2.length] at j
  exact k.nx σ H Δ M r' (st.trans st') e' (jd Δ M j)
noncomputable def Xp (g : DTG) (tb : DTS) (D : Z1) (lo : Int) (n : Nat) (Δ : DSt) (M : Mp) : Prop :=
 ∃ J : Nat → DSt → Mp → Prop, J 0 Δ M ∧ (∀ i Δ M, i < n → J i Δ M → g (.dat (.int (lo + i))) Δ M fun Δ2 M2 => tb { D with nx := J (i + 1), ct := J (i + 1), bk := D.nx } Δ2 M2) ∧ ∀ Δ M, J n Δ M → D.nx Δ M
theorem O2 {g' : TG} {tb' : TS} {lo : Int} {n : Nat} (q2 : ∀ v σ H x Δ M Φ (Q : L2.St → Hp → Prop), Zv X.K M H → Qu X.K M H σ Δ → ZU X.K M H v x → g x Δ M Φ →
  (∀ σ' H' Δ' M', Zv X.K M' H' → Step M H M' H' → Qu X.K M' H' σ' Δ' → Φ Δ' M' → Q σ' H') → g' v σ H Q)
  (q3 : ∀ σ H Δ M D E, Zv X.K M H → Qu X.K M H σ Δ → tb D Δ M → Vs X.K M H D E → tb' E σ H) {D : Z1} {E : Ends} {σ : L2.St} {H : Hp} {Δ : DSt} {M : Mp} (r : Zv X.K M H) (e : Qu X.K M H σ Δ) (h : Xp g tb D lo n Δ M) (k : Vs X.K M H D E) :
  ∃ W : Nat → Nat → L2.St → Hp → Prop, (∃ m, W 0 m σ H) ∧ ∀ i m σ H, W i m σ H →
   ((Itr lo n).stop i H ∧ E.nx σ H) ∨ ((Itr lo n).go i H ∧ ∃ N : L2.St → Hp → Prop, (∀ σ' H', N σ' H' → ∃ m', m' < m ∧ W (i + 1) m' σ' H') ∧ ∀ x H', (Itr lo n).yld i H x H' → g' x σ H' fun σ2 H2 => tb' { E with nx := N, ct := N, bk := E.nx } σ2 H2) := by
 obtain ⟨J, j0, jt, jd⟩ := h
 refine US (fun i σ' H' => ∃ Δ' M', Zv X.K M' H' ∧ Step M H M' H' ∧ Qu X.K M' H' σ' Δ' ∧ J i Δ' M') ⟨Δ, M, r, Step.refl, e, j0⟩ (fun i σ1 H1 hi ⟨Δ1, M1, r', st', e', j⟩ => ?_) (fun σ1 H1 ⟨Δ1, M1, r', st', e', j⟩ => ?_)
 ·refine q2 _ σ1 H1 (.dat (.int (lo + i))) Δ1 M1 _ _ r' e' (Dt.int _) (jt i Δ1 M1 hi j) fun σ2 H2 Δ2 M2 r2 st2 e2 hb2 => ?_
  refine q3 σ2 H2 Δ2 M2 _ _ r2 e2 hb2 ?_
  have s12 : Step M H M2 H2 := st'.trans st2
  exact ⟨fun σ' H' Δ' M' a b c d => ⟨Δ', M', a, s12.trans b, c, d⟩, k.rt.step s12, fun σ' H' Δ' M' a b c d => k.nx σ' H' Δ' M' a (s12.trans b) c d,
   fun σ' H' Δ' M' a b c d => ⟨Δ', M', a, s12.trans b, c, d⟩⟩
 ·exact k.nx σ1 H1 Δ1 M1 r' st' e' (jd Δ1 M1 j)
noncomputable def InR (j : Int) : Prop := -(2 ^ 62) ≤ j ∧ j < 2 ^ 62
noncomputable def E1 (ta : DTA) (g : DTG) (tb : DTS) : DTS := fun D Δ M => ta Δ M fun xs M1 => on1 xs fun x => onI x fun j => InR j ∧ Xp g tb D 0 j.toNat Δ M1
theorem YF {a : Expr} {ta : DTA} {p p2 : Pos} (hg0 : Gl X "range") (hm : X.mg "range" = none) (ha : DA X [a] ta) (hg : DG X tg g) (hb : DSs X body tb) (hp : PassesOwn (model X.prog X.w) X.A X.env X.xe) (hc : X.calm = true)
  (hs : starEach [a] X.env = [(false, eval a X.env)] := by rfl) (hs2 : ∀ x, foldedSetIterable (.Call (.Name "range" p) [a] [] p2) X.env x = pure x := by intro _; rfl) : DS X (.For tg (.Call (.Name "range" p) [a] [] p2) body [] pos) (E1 ta g tb) := by
 obtain ⟨t1, p1, q1⟩ := ha
 obtain ⟨t2, p2, q2⟩ := hg
 obtain ⟨t3, p3, q3⟩ := hb
 refine ⟨_, WK hp hc (Y5 hg0 hm p1 hs) p2 p3 hs2, fun σ H Δ M D E r e h k => ?_⟩
 refine q1 σ H Δ M _ _ r e h fun vs H1 xs M1 r1 st rv hx => ?_
 replace hx := Zm hx
 obtain ⟨x, rfl, hx⟩ := hx
 replace hx := ZH hx
 obtain ⟨j, rfl, ⟨h1, h2⟩, hx⟩ := hx
 obtain ⟨v, rfl, hv⟩ := Paired.one rv
 exact ⟨j, by rw [ZU.int hv], h1, h2, O2 q2 q3 r1 (e.step st) hx (k.step st)⟩
noncomputable def OV (ta : DTA) (g : DTG) (tb : DTS) : DTS := fun D Δ M => ta Δ M fun xs M1 => on2 xs fun x y => onI x fun i => onI y fun j => (InR i ∧ InR j) ∧ Xp g tb D i (j - i).toNat Δ M1
end
noncomputable abbrev DSp := List DV → Mp → DK → Prop
noncomputable def lift (K : PySem.W.Frag) (S : DSp) : Sp := fun vs H Q _ => ∃ xs M Φ, Zv K M H ∧ Jv K M H vs xs ∧ S xs M Φ ∧ Rch K M H Φ Q
noncomputable def NV (S : DSp) (t : DTA) : DTE := fun Δ M Φ => t Δ M fun xs M1 => S xs M1 Φ
section
variable {X : Cx} {CX : CXT} {k : Nat} {f : Addr} {fd : FuncData} {ps : List Str} {S : DSp} {E : XK} {x : Str} {p pos : Pos} {e : Expr} {es : List Expr} {t : DTA}
theorem Zg (F : ZX X.prog X.w X.K X.mg X.base CX k f fd ps (lift X.K S)) (hr : J0 k X.A) (hg : Gl X x) (hm : X.mg x = some (.ref f)) (hk : PySem.W.keepIn X.K (.ref f) = true) (hb : Binds X.K fd ps []) (hx : Passes CX X E)
  (ha : DA X (e :: es) t) (hdb : (x == ("__debug__" : Str)) = false := by decide) (he : starEach (e :: es) X.env = (false, eval e X.env) :: starEach es X.env := by rfl) (hpl : (backTo pos (starEach es X.env)).any (·.1) = false := by rfl) :
  DE X (.Call (.Name x p) (e :: es) [] pos) (NV S t) := by
 obtain ⟨t1, p1, q1⟩ := ha
 refine ⟨_, LU F hr hg hm hk hb .nil hx p1 hdb he hpl, fun σ H Δ M Φ Q r e h k => ?_⟩
 refine q1 σ H Δ M _ _ r e h fun vs H1 xs M1 r1 st rv hx => ?_
 show lift X.K S (vs ++ []) H1 Q E
 rw [List.append_nil]
 exact ⟨xs, M1, Φ, r1, rv, hx, k.step st⟩
end
section
variable {P : Program} {w : World} {K : PySem.W.Frag} {mg : Str → Option Value} {base : Heap}
theorem okD {x qual : Str} {st : Stmt} {f : Addr} {fd : FuncData} {N ps : List Str} {k : Nat} {S : DSp} (F : Fun K x qual st f fd) (Sc : Zt N ps (Ze st)) (len : ∀ xs M Φ, S xs M Φ → xs.length = ps.length)
  (hbody : ∀ (cdv : Value) (A : Around) (outer : List Env) (s : Shared) (H : Hp) (E : XK), J0 k (A.deeper (envOfC qual (Ze st) s.heap.objs.size f cdv)) →
   ∃ τ, DSs (EB CX0 P w K mg base N qual (Ze st) f cdv A outer s H E).nox (Zn st) τ ∧ ∀ xs M Φ, S xs M Φ → τ { nx := fun _ M' => Φ (.dat .none) M', rt := Φ } (JZ N xs) M) : ZX P w K mg base CX0 (k + 1) f fd ps (lift K S) := by
 refine F.ok Sc (fun vs H Q E h => ?_) fun cdv A outer s H vs Q E hr h => ?_
 ·obtain ⟨xs, M, Φ, _, rv, hs, _⟩ := h
  rw [Paired.length rv]
  exact len xs M Φ hs
 ·obtain ⟨xs, M, Φ, r, rv, hs, kk⟩ := h
  obtain ⟨τ, ⟨t, p, q⟩, hτ⟩ := hbody cdv A outer s H E hr
  refine ⟨t, p, q (start N vs) H (JZ N xs) M _ _ r (Qu.start rv) (hτ xs M Φ hs) ⟨fun σ' H' Δ' M' r' st' e' hn => ?_, kk, fun _ _ _ _ _ _ _ h => h.elim, fun _ _ _ _ _ _ _ h => h.elim⟩⟩
  exact kk.dat r' st' Dt.non hn
end
end DL
namespace DL
open PySem PySem.Spec PyProof.Rows L2
section
variable {X : Cx} {k v : Expr} {pos : Pos}
noncomputable def At (X : Cx) (e : Expr) (τ : DTE) : Prop := ∃ t, PE X e t ∧ ∀ σ H Δ M Φ, Qu X.K M H σ Δ → τ Δ M Φ → ∃ v x, ZU X.K M H v x ∧ Φ x M ∧ ∀ (H' : Hp) (Q : VK), Q v H' → t σ H' Q
noncomputable def OH : DTE := fun _ M Φ => Φ (.dat (.dict [])) M
noncomputable def VS (x : DV) (P : Key → Prop) : Prop := match x with | .dat (.int i) => P (.inl i) | .dat (.str s) => P (.inr s) | _ => False
noncomputable def En : List PyData → Option (List Key)
 | [] => some []
 | .int i :: r => (En r).map (.inl i :: ·)
 | .str s :: r => (En r).map (.inr s :: ·)
 | _ :: _ => none
noncomputable def SN (ds : List PyData) (P : List Key → Prop) : Prop := match En ds with | some ks => P ks | none => False
noncomputable def NS (tk tv : DTE) : DTE := fun Δ M Φ => tk Δ M fun x M1 => tv Δ M1 fun y M2 => VS x fun k => onD y fun d => Φ (.dat (.dict [(kD k, d)])) M2
noncomputable def Oj (tk tv tk' tv' : DTE) : DTE := fun Δ M Φ => tk Δ M fun x M1 => tv Δ M1 fun y M2 => tk' Δ M2 fun x' M3 => tv' Δ M3 fun y' M4 => VS x fun k => onD y fun d => VS x' fun k' => onD y' fun d' => k ≠ k' ∧ Φ (.dat (.dict [(kD k, d), (kD k', d')])) M4
noncomputable def ZcI (a b : Addr) (v : V) (h : Heap) : Prop := ∃ o es n u, h.get? a = some o ∧ o.cls = .type "dict" ∧ o.data = .dict es n ∧ es.toList.map (·.key) = [.ref b] ∧ es.toList.map (·.val) = [u] ∧ RelV v u
noncomputable def FA (tk tv : DTE) : DTE := fun Δ M Φ => tk Δ M fun x M1 => tv Δ M1 fun y M2 => onT x fun ds => SN ds fun ks => onD y fun d => Φ (.dat (.dict [(.tuple (ks.map kD), d)])) M2
theorem SqT.new {K : PySem.W.Frag} {H : Hp} {a p : Addr} {xs : List V} {o : HO} (h : SqT K H a xs) (hp : H p = none) : SqT K (upd H p o) a xs := by
 rcases h with (h | ⟨ob, h⟩) | h
 ·exact .inl (.inl (by rw [ZA (Zo h hp)]; exact h))
 ·exact .inl (.inr ⟨ob, by rw [ZA (Zo h hp)]; exact h⟩)
 ·exact .inr h
end
end DL
namespace DL
open PySem PySem.Spec PyProof.Rows L2
mutual
noncomputable def cost : PyData → Nat
 | .none => 4
 | .bool _ => 5
 | .int _ => 1921
 | .str x => (reprText x).length
 | .list xs => ZS xs + 2
 | .tuple xs => ZS xs + 3
 | .dict kvs => V6 kvs + 2
noncomputable def ZS : List PyData → Nat
 | [] => 0
 | x :: xs => cost x + 2 + ZS xs
noncomputable def V6 : List (PyData × PyData) → Nat
 | [] => 0
 | (k, v) :: r => cost k + 2 + cost v + 2 + V6 r
end
theorem VB : ∀ (ts : List Str) (k : Nat) (acc : Str), (textFrom k acc ts).length ≤ acc.length + piled ts
 | [], k, acc => Nat.le_add_right _ _
 | t :: r, k, acc => by
  have h := VB r (k + 1) (acc ++ (if k > 0 then ", " else "" : String) ++ t)
  have e : (acc ++ (if k > 0 then ", " else "" : String) ++ t).length = acc.length + (if k > 0 then 2 else 0) + t.length := by
   rw [strLen_append, strLen_append]
   split <;> rfl
  have d1 : (if k > 0 then 2 else 0 : Nat) ≤ 2 := by split <;> omega
  rw [e] at h
  rw [piled_cons]
  show (textFrom (k + 1) _ r).length ≤ _
  omega
theorem GI (ts : List Str) : (Str.join ", " ts).length ≤ piled ts := by
 by_cases h : ts = []
 ·subst h; exact Nat.le_of_eq rfl
 ·have := join_length_add ts h
  omega
mutual
theorem Q8 : ∀ d : PyData, d.showable = true → d.shown.length ≤ cost d
 | .none, _ => by simp only [PyData.shown, cost]; exact Nat.le_of_eq rfl
 | .bool b, _ => by
  simp only [PyData.shown, cost]
  cases b
  ·exact Nat.le_of_eq rfl
  ·exact (by decide : 4 ≤ 5)
 | .int i, h => by
  simp only [PyData.shown, cost]
  exact int_text_len_1921 (by simpa [PyData.showable] using h)
 | .str x, _ => by simp only [PyData.shown, cost]; exact Nat.le_refl _
 | .list xs, h => by
  have h1 := QH xs (by simpa [PyData.showable] using h)
  have h2 := VB (PyData.shownAll xs) 0 "["
  have e1 : ((("[" : String) : Str)).length = 1 := rfl
  have e2 : ((("]" : String) : Str)).length = 1 := rfl
  simp only [PyData.shown, cost]
  unfold listText
  rw [strLen_append, e2]
  rw [e1] at h2
  omega
 | .tuple xs, h => by
  have h1 := QH xs (by simpa [PyData.showable] using h)
  have h2 := GI (PyData.shownAll xs)
  have e1 : ((("(" : String) : Str)).length = 1 := rfl
  have e3 : (((if (PyData.shownAll xs).length == 1 then ",)" else ")" : String) : Str)).length ≤ 2 := by split <;> decide
  simp only [PyData.shown, cost]
  unfold tupleText
  rw [strLen_append, strLen_append, e1]
  omega
 | .dict kvs, h => by
  have h1 := J8 kvs (by simpa [PyData.showable] using h)
  have h2 := GI (PyData.shownKv kvs)
  have e : (dictText (PyData.shownKv kvs)).length = 1 + (Str.join ", " (PyData.shownKv kvs)).length + 1 := by
   unfold dictText
   rw [strLen_append, strLen_append]; rfl
  simp only [PyData.shown, cost]
  omega
theorem QH : ∀ xs : List PyData, PyData.showableAll xs = true → piled (PyData.shownAll xs) ≤ ZS xs
 | [], _ => by simp only [PyData.shownAll, ZS]; exact Nat.le_of_eq rfl
 | x :: xs, h => by
  have h' : x.showable = true ∧ PyData.showableAll xs = true := by simpa [PyData.showableAll] using h
  have h1 := Q8 x h'.1
  have h2 := QH xs h'.2
  simp only [PyData.shownAll, ZS]
  rw [piled_cons]
  omega
theorem J8 : ∀ kvs : List (PyData × PyData), PyData.showableKv kvs = true → piled (PyData.shownKv kvs) ≤ V6 kvs
 | [], _ => by simp only [PyData.shownKv, V6]; exact Nat.le_of_eq rfl
 | (k, v) :: r, h => by
  have h' : (k.showable = true ∧ v.showable = true) ∧ PyData.showableKv r = true := by simpa [PyData.showableKv] using h
  have h1 := Q8 k h'.1.1
  have h2 := Q8 v h'.1.2
  have h3 := J8 r h'.2
  have e : ((k.shown ++ ": " ++ v.shown : Str)).length = k.shown.length + 2 + v.shown.length := by rw [strLen_append, strLen_append]; rfl
  simp only [PyData.shownKv, V6]
  rw [piled_cons, e]
  omega
end
theorem Shw.of {d : PyData} (s : d.showable = true) (m : (d.hasDict && ZG d) = false) (dp : d.depth ≤ 64) (z : cost d ≤ 1000000) : Shw d :=
 ⟨s, m, dp, Nat.le_trans (Q8 d s) (Nat.le_trans z (by rw [sizeLine_eq]; decide))⟩
structure Own (K : PySem.W.Frag) (mg : Str → Option Value) (x : Str) (st : Stmt) (ps : List Str) (f : Addr) (fd : FuncData) : Prop where
 F : Fun K x x st f fd
 m : mg x = some (.ref f)
 b : Binds K fd ps []
noncomputable def G9 : DSp := fun xs M Φ => ∃ ns : List Int, xs = [.dat (.list (ns.map PyData.int))] ∧ ns.length ≤ 63 ∧ ∀ M', Φ (.dat (.bool true)) M'
theorem GL {K : PySem.W.Frag} {H : Hp} {a : Addr} {ns : List Int} (hl : ns.length ≤ 63) (_ : Rq H) (hS : SqL K H a (ns.map V.int)) : lift K G9 [.ref a] H (fun v _ => v = .bl true) fun _ _ _ => False := by
 refine ⟨[.dat (.list (ns.map PyData.int))], fun _ => none, fun x _ => x = .dat (.bool true), (show Zv K (fun _ => none) H from ⟨fun b o e => (by cases e)⟩), Paired.cons (Dt.lst ?_ (Dts.ints ns)) Paired.nil, ⟨ns, rfl, hl, fun _ => rfl⟩, fun v H' x M' _ _ rv hx => ?_⟩
 ·rcases hS with h | h
  ·exact .inl ⟨rfl, h⟩
  ·exact .inr h
 ·subst hx
  exact rv.bool
end DL
namespace DL
open PySem PySem.Spec PyProof.Rows L2
theorem Gs {α : Type} {l : List α} {i : Int} (h0 : 0 ≤ i) (h1 : i < l.length) : ∃ d, atI l i = some d ∧ d ∈ l := by
 have hl : i.toNat < l.length := by omega
 refine ⟨l[i.toNat], ?_, List.getElem_mem hl⟩
 have q : atI l ((i.toNat : Nat) : Int) = some l[i.toNat] := JQ (by simp [hl])
 rw [show ((i.toNat : Nat) : Int) = i by omega] at q
 exact q
theorem Nz : ixN 3 0 = some 0 := rfl
theorem PX : ixN 3 1 = some 1 := rfl
theorem PR : ixN 3 2 = some 2 := rfl
theorem LW {ns : List Int} {j : Int} (h0 : 0 ≤ j) (h1 : j < ns.length) : ∃ c : Int, atI (ns.map PyData.int) j = some (.int c) := by
 obtain ⟨d, e, hm⟩ := Gs (l := ns.map PyData.int) h0 (by rw [List.length_map]; exact h1)
 obtain ⟨c, _, rfl⟩ := List.mem_map.mp hm
 exact ⟨c, e⟩
theorem G2 (x : Int) {m : Int} (h : 0 < m) : 0 ≤ x % m ∧ x % m < m := ⟨Int.emod_nonneg _ (by omega), Int.emod_lt_of_pos _ h⟩
noncomputable def sp1 (f : PyData → Bool) : DSp := fun xs M Φ => ∃ d, xs = [.dat d] ∧ Φ (.dat (.bool (f d))) M
theorem Ff (k : Int) (h : 0 ≤ k ∧ k ≤ 1000000) : RI 10 k := ⟨h.1, h.2, by decide⟩
theorem Gn {M : Mp} {a : Addr} {o : OO} (h : M a = none) : VA (ZE M a o) a = M := by
 funext b
 unfold VA ZE
 split
 ·rename_i e; rw [e, h]
 ·rfl
theorem Zw {p : Prop} [Decidable p] {A B : Prop} (h1 : p → A) (h2 : ¬ p → B) : if decide p = true then A else B := by
 by_cases h : p
 ·rw [decide_eq_true h, if_pos rfl]; exact h1 h
 ·rw [decide_eq_false h, if_neg Bool.false_ne_true]; exact h2 h
end DL
namespace DL
open PySem PySem.Spec PyProof.Rows L2
noncomputable def UU (env : Env) : List (Str × NameKind) → List (Str × Addr) → List (Str × Addr)
 | [], cs => cs
 | (n, k) :: r, cs => UU env r (if (k == NameKind.free) = true then (n, (env.cells.lookup n).getD 0) :: cs else cs)
theorem Yg {env : Env} (f : Str × NameKind → List (Str × Addr) → Sem (ForInStep (List (Str × Addr)))) : ∀ (l : List (Str × NameKind)) (cs : List (Str × Addr)),
  (∀ y ∈ l, ∀ cs, f y cs = pure (.yield (if (y.2 == NameKind.free) = true then (y.1, (env.cells.lookup y.1).getD 0) :: cs else cs))) → forIn l cs f = pure (UU env l cs)
 | [], cs, _ => by rw [List.forIn_nil]; rfl
 | (n, k) :: r, cs, h => by
  rw [List.forIn_cons, h _ List.mem_cons_self, pure_bind]
  exact Yg f r _ fun y hy => h y (List.mem_cons_of_mem _ hy)
theorem Vp {scope : Scope} {env : Env} (h : ∀ y ∈ scope.names, y.2 = .free → ∃ c, env.cells.lookup y.1 = some c) : closureFor scope env = pure (UU env scope.names []) := by
 simp only [closureFor]
 rw [Yg (env := env) _ scope.names [] (fun y hy cs => by
  obtain ⟨n, k⟩ := y
  by_cases hk : k = .free
  ·subst hk
   obtain ⟨c, e⟩ := h _ hy rfl
   have e' : env.cells.lookup n = some c := e
   simp only [beq_self_eq_true, if_true, cellOf, e', Option.getD_some, pure_bind]
  ·have : (k == NameKind.free) = false := by simpa using hk
   simp only [this, Bool.false_eq_true, if_false])]
 rfl
theorem Ww {env : Env} : ∀ {l : List (Str × NameKind)} {cs : List (Str × Addr)} {x : Str} {c : Addr}, (x, c) ∈ UU env l cs → (x, c) ∈ cs ∨ ((x, NameKind.free) ∈ l ∧ c = (env.cells.lookup x).getD 0)
 | [], _, _, _, h => .inl h
 | (n, k) :: r, cs, x, c, h => by
  rcases Ww (l := r) h with h | ⟨h1, h2⟩
  ·by_cases hk : k = .free
   ·subst hk
    rw [if_pos (by simp)] at h
    rcases List.mem_cons.mp h with h | h
    ·cases h
     exact .inr ⟨List.mem_cons_self, rfl⟩
    ·exact .inl h
   ·have : (k == NameKind.free) = false := by simpa using hk
    rw [if_neg (by rw [this]; exact Bool.false_ne_true)] at h
    exact .inl h
  ·exact .inr ⟨List.mem_cons_of_mem _ h1, h2⟩
theorem WX {env : Env} : ∀ {l : List (Str × NameKind)} {cs : List (Str × Addr)} {x : Str}, ((x, NameKind.free) ∈ l ∨ ∃ c, (x, c) ∈ cs) → ∃ c, (x, c) ∈ UU env l cs
 | [], _, _, h => h.elim (fun z => nomatch z) id
 | (n, k) :: r, cs, x, h => by
  refine WX (l := r) ?_
  rcases h with h | ⟨c, h⟩
  ·rcases List.mem_cons.mp h with h | h
   ·cases h
    exact .inr ⟨_, by rw [if_pos (by simp)]; exact List.mem_cons_self⟩
   ·exact .inl h
  ·refine .inr ⟨c, ?_⟩
   split
   ·exact List.mem_cons_of_mem _ h
   ·exact h
theorem Vw {β : Type} : ∀ {l : List (Str × β)} {x : Str} {c : β}, (x, c) ∈ l → ∃ c', l.lookup x = some c'
 | [], _, _, h => nomatch h
 | (n, d) :: r, x, c, h => by
  rw [List.lookup_cons]
  cases e : x == n with
  | true => exact ⟨d, rfl⟩
  | false =>
   rcases List.mem_cons.mp h with h | h
   ·cases h
    simp at e
   ·exact Vw h
theorem Z9 {env : Env} {names : List (Str × NameKind)} (hf : ∀ y ∈ names, y.2 = .free → ∃ c, env.cells.lookup y.1 = some c) {x : Str} {c : Addr} (h : (UU env names []).lookup x = some c) :
  env.cells.lookup x = some c ∧ (x, NameKind.free) ∈ names := by
 rcases Ww (PySem.mem_of_lookup h) with h | ⟨h1, h2⟩
 ·exact nomatch h
 ·obtain ⟨c', e⟩ := hf _ h1 rfl
  have e' : env.cells.lookup x = some c' := e
  rw [e', Option.getD_some] at h2
  subst h2
  exact ⟨e', h1⟩
theorem WB {env : Env} {names : List (Str × NameKind)} (hf : ∀ y ∈ names, y.2 = .free → ∃ c, env.cells.lookup y.1 = some c) {x : Str} (h : (x, NameKind.free) ∈ names) : ∃ c, (UU env names []).lookup x = some c ∧ env.cells.lookup x = some c := by
 obtain ⟨c, hm⟩ := WX (env := env) (cs := []) (.inl h)
 obtain ⟨c', e⟩ := Vw hm
 exact ⟨c', e, (Z9 hf e).1⟩
noncomputable def ZD (X : Cx) (scope : Scope) (C : Addr) (N : List Str) (ex : List Addr) (s : Shared) (H : Hp) : Cx :=
 { X with N := N, s₀ := s, H₀ := H, env := compEnvC scope (UU X.env scope.names []) C X.env, outer := X.stack, ex := ex, fn := fun _ => false, pn := [], xe := fun _ _ => False }
noncomputable def QV (ix : List (Option Nat)) (σ : L2.St) : L2.St := ix.map fun o => o.bind fun i => (σ[i]?).join
noncomputable def W4 (ix : List (Option Nat)) (Δ : DSt) : DSt := ix.map fun o => o.bind fun i => (Δ[i]?).join
structure JD (X : Cx) (scope : Scope) (N : List Str) (ix : List (Option Nat)) : Prop where
 kind : scope.kind = .function
 cellF : ∀ y ∈ scope.names, y.2 ≠ .cell
 names : ∀ y ∈ scope.names, y.2 = .local → scope.names.lookup y.1 = some .local
 free : ∀ y ∈ scope.names, y.2 = .free → X.env.kindOf y.1 = some .cell
 len : N.length = ix.length
 cap : ∀ (j : Nat) (x : Str) (i : Nat), N[j]? = some x → ix[j]? = some (some i) → X.N[i]? = some x ∧ (x, NameKind.free) ∈ scope.names ∧ (relabel scope X.env).names.lookup x = some .cell
theorem U3 {ix : List (Option Nat)} {σ : L2.St} {j : Nat} {v : V} (h : (QV ix σ)[j]? = some (some v)) : ∃ i, ix[j]? = some (some i) ∧ σ[i]? = some (some v) := by
 unfold QV at h
 rw [List.getElem?_map] at h
 cases e : ix[j]? with
 | none => rw [e] at h; cases h
 | some o =>
  rw [e] at h
  cases o with
  | none => simp at h
  | some i =>
   refine ⟨i, rfl, ?_⟩
   have h' : (σ[i]?).join = some v := by simpa using h
   cases q : σ[i]? with
   | none => rw [q] at h'; cases h'
   | some o' => rw [q] at h'; exact congrArg some h'
theorem Qu.cap {K : PySem.W.Frag} {M : Mp} {H : Hp} {σ : L2.St} {Δ : DSt} (h : Qu K M H σ Δ) (ix : List (Option Nat)) : Qu K M H (QV ix σ) (W4 ix Δ) := by
 refine ⟨by unfold QV W4; rw [List.length_map, List.length_map], fun j x e => ?_⟩
 unfold W4 at e
 rw [List.getElem?_map] at e
 cases q : ix[j]? with
 | none => rw [q] at e; cases e
 | some o =>
  rw [q] at e
  cases o with
  | none => simp at e
  | some i =>
   have e' : (Δ[i]?).join = some x := by simpa using e
   have e2 : Δ[i]? = some (some x) := by
    cases q2 : Δ[i]? with
    | none => rw [q2] at e'; cases e'
    | some o' => rw [q2] at e'; exact congrArg some e'
   obtain ⟨v, hv, rv⟩ := h.at' i x e2
   refine ⟨v, ?_, rv⟩
   unfold QV
   rw [List.getElem?_map, q]
   simp [hv]
section
variable {X : Cx} {pins : List (Addr × Obj)} {σ : L2.St} {H2 : Hp} {s2 : Shared} {scope : Scope} {N : List Str} {ix : List (Option Nat)} {C : Addr} {fp : List Addr}
theorem MX (ok : JD X scope N ix) (I2 : Inv X pins σ H2 s2) : ∀ y ∈ scope.names, y.2 = .free → ∃ c, X.env.cells.lookup y.1 = some c := fun y hy hk => I2.ok.has y.1 (.inl (ok.free y hy hk))
theorem Uy (ok : JD X scope N ix) (I2 : Inv X pins σ H2 s2) (f2 : ∀ b ∈ fp, UG X pins H2 b) (ex : ∀ b ∈ fp, ∃ o, s2.heap.get? b = some o) (hC : s2.heap.objs.size ≤ C) : (ZD X scope C N fp s2 H2).Ok := by
 have hf := MX ok I2
 refine ⟨I2.ok.mod, ok.kind, I2.ok.glob, I2.ok.blt, hC, fun x y c h1 h2 => I2.ok.inj x y c (Z9 hf h1).1 (Z9 hf h2).1, fun x hx => ?_, fun x c h => absurd h Bool.false_ne_true, I2.ok.hd, I2.ok.frames, .inl rfl, fun b hb => ?_, fun b o e => I2.bs b o e, Nat.le_trans I2.ok.bsz I2.sz,
  fun b o e hb => ?_, fun b hb z => ?_, I2.stack, I2.G4⟩
 ·have hx' : (relabel scope X.env).names.lookup x = some .cell ∨ (relabel scope X.env).names.lookup x = some .free := hx
  have key : (x, NameKind.free) ∈ scope.names := by
   have go : ∀ k', (relabel scope X.env).names.lookup x = some k' → (k' = .cell ∨ k' = .free) → (x, NameKind.free) ∈ scope.names := fun k' e hk => by
    have hm := PySem.mem_of_lookup e
    obtain ⟨⟨n, k⟩, hn, q⟩ := List.mem_map.mp hm
    by_cases hr : (k == NameKind.free && X.env.scope.kind == .function && X.env.kindOf n == some .cell) = true
    ·have q' : (n, NameKind.cell) = (x, k') := by rw [← q]; simp [hr]
     cases q'
     have : k = .free := by simp only [Bool.and_eq_true] at hr; simpa using hr.1.1
     subst this
     exact hn
    ·have q' : (n, k) = (x, k') := by rw [← q]; simp [hr]
     cases q'
     rcases hk with rfl | rfl
     ·exact absurd rfl (ok.cellF _ hn)
     ·exact hn
   rcases hx' with h | h
   ·exact go _ h (.inl rfl)
   ·exact go _ h (.inr rfl)
  obtain ⟨c, h1, _⟩ := WB hf key
  exact ⟨c, h1⟩
 ·obtain ⟨o, e⟩ := ex b hb
  exact ⟨Nat.ne_of_lt (Nat.lt_of_lt_of_le (Heap.lt_size e) hC), fun x c h => (f2 b hb).2.2.2.2.1 x c (Z9 hf h).1⟩
 ·rcases (f2 b hb).2.2.2.1 with z | z
  ·exact I2.ok.noex b o e z
  ·exact absurd (Nat.lt_of_lt_of_le (Heap.lt_size e) (Nat.le_trans I2.ok.bsz z)) (Nat.lt_irrefl _)
 ·rcases List.mem_cons.mp (I2.Bh b z) with z | z
  ·exact (f2 b hb).2.1 z
  ·exact (f2 b hb).2.2.1 z
theorem WV (ok : JD X scope N ix) (I2 : Inv X pins σ H2 s2) (f2 : ∀ b ∈ fp, UG X pins H2 b) {s : Shared} {H : Hp} {m : Str → Option Value} (u : Un (frs X.stack) fp H2 H s2.heap s.heap) :
  ∀ (i : Nat) (x : Str) (v : V), N[i]? = some x → (QV ix σ)[i]? = some (some v) → ∃ w, RelV v w ∧ Look (ZD X scope C N fp s2 H2).env s.heap m x w := fun j x v hN hv => by
 obtain ⟨i, hi, hs⟩ := U3 hv
 obtain ⟨hx, hm, hr⟩ := ok.cap j x i hN hi
 have hk : X.env.kindOf x = some .cell := ok.free _ hm rfl
 obtain ⟨m0, _, hl⟩ := I2.loc
 obtain ⟨w, r, l⟩ := hl i x v hx hs (.inr (.inl hk))
 refine ⟨w, r, .inr ⟨.inl hr, ?_⟩⟩
 rcases l with ⟨z, _⟩ | ⟨_, c, e, hc⟩
 ·rw [hk] at z; cases z
 ·obtain ⟨c', h1, h2⟩ := WB (MX ok I2) hm
  rw [e] at h2
  cases h2
  refine ⟨c, h1, ?_⟩
  obtain ⟨o, ho, hd⟩ := hc
  obtain ⟨sl, q⟩ := u.any ho (I2.freeC x c e) fun z => (f2 c z).2.2.2.2.1 x c e rfl
  exact ⟨_, q, hd⟩
end
end DL
namespace DL
open PySem PySem.Spec PyProof.Rows L2
section
variable {prog : Program} {w : World} {A : Around} {R : Result → Shared → Prop} {s : Shared}
theorem X9 {elt target iter : Expr} {ifs : List Expr} {scope : Scope} {pos : Pos} {it acc : Value} {env : Env} (I : Nat → Shared → Prop)
  (turn : ∀ n s, I n s → wpAny (model prog w) A (pyNext it) (fun r s₁ => match r with
   | none => R (.ok .next) s₁
   | some v => wpAny (model prog w) A (letOwnedTupleGo target it v) (fun _ s₁' => wpAny (model prog w) A (assign target env v) (fun _ s₂ =>
     wpAny (model prog w) A (forIn ifs true fun c r => if r = true then do let ok ← isTrue c env (eval c env); pure (ForInStep.yield ok) else pure (ForInStep.yield r)) (fun ok s₃ =>
      if ok = true then wpAny (model prog w) A (eval elt env) (fun x s₄ =>
       wpAny (model prog w) A (call (.builtin "list.append") [acc, x]) (fun _ s₅ => ∃ m, m < n ∧ I m s₅) (fun _ _ => False) s₄) (fun _ _ => False) s₃
      else ∃ m, m < n ∧ I m s₃) (fun _ _ => False) s₂) (fun _ _ => False) s₁') (fun _ _ => False) s₁) (fun _ _ => False) s)
  (n : Nat) (h : I n s) : codeAny (model prog w) A (.compLoop (.ListComp elt [⟨target, iter, ifs, 0⟩] scope pos) 0 it acc env) R s := by
 refine codeAny_loop rfl I (fun n s hI => ?_) n h
 show wpAny _ A ((compTurn (.ListComp elt [⟨target, iter, ifs, 0⟩] scope pos) 0 it acc env).onRaise (fun x => do noteFrame x env; theTreesLotGoes x)) _ _ s
 refine wpAny_noted ?_
 rw [compTurn_list]
 refine wpAny_bind (wpAny_standAt (wpAny_bind (wpAny_mono (turn n s hI) (fun r s₁ h₁ => ?_) fun _ _ h' => h'.elim)))
 cases r with
 | none => exact wpAny_pure h₁
 | some v =>
  refine wpAny_bind (wpAny_mono h₁ (fun _ s₁' h₁' => ?_) fun _ _ h' => h'.elim)
  refine wpAny_bind (wpAny_mono h₁' (fun _ s₂ h₂ => wpAny_bind (wpAny_mono h₂ (fun ok s₃ h₃ => ?_) fun _ _ h' => h'.elim)) fun _ _ h' => h'.elim)
  cases ok with
  | false => exact wpAny_pure ⟨rfl, h₃⟩
  | true =>
   exact wpAny_bind (wpAny_bind (wpAny_mono h₃ (fun x s₄ h₄ => wpAny_bind (wpAny_mono h₄ (fun _ s₅ h₅ => wpAny_pure (wpAny_pure ⟨rfl, h₅⟩)) fun _ _ h' => h'.elim)) fun _ _ h' => h'.elim))
end
noncomputable def Yl (K : PySem.W.Frag) (J : It) (ds : List PyData) (M : Mp) (H : Hp) : Prop := ∀ M2 H2, Step M H M2 H2 → ∀ i,
 (i < ds.length → J.go i H2 ∧ ∀ x H', J.yld i H2 x H' → Zv K M2 H2 → Zv K M2 H' ∧ Step M2 H2 M2 H' ∧ ∃ d, ds[i]? = some d ∧ Dt K M2 H' x d) ∧ (ds.length ≤ i → J.stop i H2)
noncomputable abbrev J9 := DSt → Mp → (List PyData → Mp → Prop) → Prop
noncomputable def DI (X : Cx) (tg iter : Expr) (src : J9) : Prop := ∃ wi, PI X tg iter wi ∧ ∀ σ H Δ M Ψ (R : It → Hp → Prop), Zv X.K M H → Qu X.K M H σ Δ → src Δ M Ψ →
 (∀ J H' M' ds, Zv X.K M' H' → Step M H M' H' → Yl X.K J ds M' H' → Ψ ds M' → R J H') → wi σ H R
section
variable {X : Cx} {tg iter : Expr}
noncomputable def Zbd (te : DTE) : J9 := fun Δ M Ψ => te Δ M fun x M1 => onL x fun ds => Ψ ds M1
noncomputable def ZaJ (te : DTE) : J9 := fun Δ M Ψ => te Δ M fun x M1 => onT x fun ds => Ψ ds M1
theorem MW {te : DTE} (he : DE X iter te) : DI X tg iter (ZaJ te) := by
 obtain ⟨t, p, q⟩ := he
 refine ⟨_, E2 p, fun σ H Δ M Ψ R dr er h k => ?_⟩
 refine q σ H Δ M _ _ dr er h fun v H1 x M1 r1 st rv hx => ?_
 replace hx := VN hx
 obtain ⟨ds, rfl, hΨ⟩ := hx
 obtain ⟨a, xs, rfl, h1, h2⟩ := rv.tup
 refine ⟨a, rfl, ⟨xs, h1.sq⟩, k _ H1 M1 ds r1 st (fun M2 H2 st2 i => ⟨fun hi => ?_, fun hi => ?_⟩) hΨ⟩
 ·have hx : i < xs.length := by rw [h2.length]; exact hi
  refine ⟨⟨xs, xs[i], (h1.step st2).sq, by simp [hx]⟩, fun x H' y => ?_⟩
  obtain ⟨e, y⟩ := y
  obtain ⟨d, hd, hy⟩ := (h2.step st2).L5 (y xs (h1.step st2).sq)
  subst e
  exact fun r => ⟨r, Step.refl, d, hd, hy⟩
 ·exact ⟨xs, (h1.step st2).sq, by rw [h2.length]; exact hi⟩
noncomputable def YS (lo : Int) (n : Nat) : List PyData := (List.range n).map fun (i : Nat) => PyData.int (lo + (i : Int))
theorem Vd (lo : Int) (n : Nat) : (YS lo n).length = n := by unfold YS; rw [List.length_map, List.length_range]
theorem WC {lo : Int} {n i : Nat} (h : i < n) : (YS lo n)[i]? = some (.int (lo + (i : Int))) := by
 unfold YS
 rw [List.getElem?_map, List.getElem?_range h]
 rfl
theorem WA {K : PySem.W.Frag} {M : Mp} {H : Hp} (lo : Int) (n : Nat) : Yl K (Itr lo n) (YS lo n) M H := fun M2 H2 st2 i => by
 rw [Vd]
 refine ⟨fun hi => ⟨hi, fun x H' y => ?_⟩, fun hi => hi⟩
 obtain ⟨e, y⟩ := y
 subst y e
 exact fun r => ⟨r, Step.refl, _, WC hi, Dt.int _⟩
noncomputable def NX (ta : DTA) : J9 := fun Δ M Ψ => ta Δ M fun xs M1 => on1 xs fun x => onI x fun j => InR j ∧ Ψ (YS 0 j.toNat) M1
theorem U1 {a : Expr} {ta : DTA} {p p2 : Pos} (hg0 : Gl X "range") (hm : X.mg "range" = none) (ha : DA X [a] ta) (hs : starEach [a] X.env = [(false, eval a X.env)] := by rfl) : DI X tg (.Call (.Name "range" p) [a] [] p2) (NX ta) := by
 obtain ⟨t1, p1, q1⟩ := ha
 refine ⟨_, Y5 hg0 hm p1 hs, fun σ H Δ M Ψ R dr er h k => ?_⟩
 refine q1 σ H Δ M _ _ dr er h fun vs H1 xs M1 r1 st rv hx => ?_
 replace hx := Zm hx
 obtain ⟨x, rfl, hx⟩ := hx
 replace hx := ZH hx
 obtain ⟨j, rfl, ⟨h1, h2⟩, hΨ⟩ := hx
 obtain ⟨v, rfl, hv⟩ := Paired.one rv
 exact ⟨j, by rw [ZU.int hv], h1, h2, k _ H1 M1 _ r1 st (WA 0 j.toNat) hΨ⟩
noncomputable def M0 (ta : DTA) : J9 := fun Δ M Ψ => ta Δ M fun xs M1 => on2 xs fun x y => onI x fun i => onI y fun j => (InR i ∧ InR j) ∧ Ψ (YS i (j - i).toNat) M1
theorem U8 {a b : Expr} {ta : DTA} {p p2 : Pos} (hg0 : Gl X "range") (hm : X.mg "range" = none) (ha : DA X [a, b] ta) (hs : starEach [a, b] X.env = [(false, eval a X.env), (false, eval b X.env)] := by rfl) (hs2 : starEach [b] X.env = [(false, eval b X.env)] := by rfl) :
  DI X tg (.Call (.Name "range" p) [a, b] [] p2) (M0 ta) := by
 obtain ⟨t1, p1, q1⟩ := ha
 refine ⟨_, Bo hg0 hm p1 hs hs2, fun σ H Δ M Ψ R dr er h k => ?_⟩
 refine q1 σ H Δ M _ _ dr er h fun vs H1 xs M1 r1 st rv hx => ?_
 replace hx := Qr hx
 obtain ⟨x, y, rfl, hx⟩ := hx
 replace hx := ZH hx
 obtain ⟨i, rfl, hx⟩ := hx
 replace hx := ZH hx
 obtain ⟨j, rfl, ⟨⟨a1, a2⟩, a3, a4⟩, hΨ⟩ := hx
 have h1 : -(2 ^ 62) ≤ i ∧ i < 2 ^ 62 ∧ -(2 ^ 62) ≤ j ∧ j < 2 ^ 62 := ⟨a1, a2, a3, a4⟩
 obtain ⟨v, u, rfl, hv, hu⟩ := Paired.two rv
 exact ⟨i, j, by rw [ZU.int hv, ZU.int hu], h1, k _ H1 M1 _ r1 st (WA i (j - i).toNat) hΨ⟩
end
noncomputable def WH (ow : Bool) (Φ : DK) (acc : List PyData) (M : Mp) : Prop := match ow with | true => ∀ p, M p = none → Φ (.own p) (ZE M p (.lst acc)) | false => Φ (.dat (.list acc)) M
noncomputable def Cq (ow : Bool) (src : J9) (ix : List (Option Nat)) (g : DTG) (tc : DTT) (te : DTE) : DTE := fun Δ M Φ => src Δ M fun ds M1 => ds.length ≤ sizeLine ∧ ∃ J : Nat → List PyData → Mp → Prop, J 0 [] M1 ∧
 (∀ i d acc M', ds[i]? = some d → J i acc M' → g (.dat d) (W4 ix Δ) M' fun Δ2 M2 => tc Δ2 M2 fun b M3 => if b = true then te Δ2 M3 fun y M4 => onD y fun e => J (i + 1) (acc ++ [e]) M4 else J (i + 1) acc M3) ∧
 ∀ acc M', J ds.length acc M' → WH ow Φ acc M'
noncomputable def DTs (X : Cx) (ifs : List Expr) (τ : DTT) : Prop := ∀ (pins : List (Addr × Obj)) (s : Shared) (σ : L2.St) (H : Hp) (Δ : DSt) (M : Mp) (Φ : Bool → Mp → Prop), L2.Inv X pins σ H s → Zv X.K M H → Qu X.K M H σ Δ → τ Δ M Φ →
 wpAny (model X.prog X.w) X.A (forIn ifs true fun c r => if r = true then do let ok ← isTrue c X.env (eval c X.env); pure (ForInStep.yield ok) else pure (ForInStep.yield r))
  (fun b s' => ∃ H' M', L2.Inv X pins σ H' s' ∧ Zv X.K M' H' ∧ Step M H M' H' ∧ Φ b M') X.xe s
noncomputable def TV : DTT := fun _ M Φ => Φ true M
theorem VR {X : Cx} : DTs X [] TV := fun pins s σ H Δ M Φ I dr er h => wpAny_tests_nil ⟨H, M, I, dr, Step.refl, h⟩
end DL
namespace DL
open PySem PySem.Spec PyProof.Rows L2
section
variable {X : Cx}
noncomputable abbrev CompSrc (ds : List PyData) (M1 : Mp) (Δ : DSt) (ix : List (Option Nat)) (g : DTG) (tc : DTT) (te : DTE) (ψ : List PyData → Mp → Prop) : Prop := ds.length ≤ sizeLine ∧ ∃ J : Nat → List PyData → Mp → Prop, J 0 [] M1 ∧
 (∀ i d acc M', ds[i]? = some d → J i acc M' → g (.dat d) (W4 ix Δ) M' fun Δ2 M2 => tc Δ2 M2 fun b M3 => if b = true then te Δ2 M3 fun y M4 => onD y fun e => J (i + 1) (acc ++ [e]) M4 else J (i + 1) acc M3) ∧ ∀ acc M', J ds.length acc M' → ψ acc M'
set_option maxHeartbeats 2000000 in
theorem Y6 {elt tg iter : Expr} {ifs : List Expr} {scope : Scope} {pos ps : Pos} {src : J9} {N : List Str} {ix : List (Option Nat)} {g : DTG} {tc : DTT} {te : DTE} {use : Option (Value → Sem Unit)} {QQ : Value → Shared → Prop} {ψ : List PyData → Mp → Prop} (ok : JD X scope N ix) (hi : DI X tg iter src)
  (hg : ∀ C ex s H, DG (ZD X scope C N ex s H) tg g) (ht : ∀ C ex s H, DTs (ZD X scope C N ex s H) ifs tc) (he : ∀ C ex s H, DE (ZD X scope C N ex s H) elt te) (hc : X.calm = true)
  (hs : ∀ x, foldedSetIterable iter X.env x = pure x) {σ : L2.St} {H : Hp} {Δ : DSt} {M : Mp} {pins : List (Addr × Obj)} {s : Shared} (dr : Zv X.K M H) (er : Qu X.K M H σ Δ) (h : src Δ M fun ds M1 => CompSrc ds M1 Δ ix g tc te ψ) (I : L2.Inv X pins σ H s)
  (hfin : ∀ (s4 : Shared) (C D : Addr) (H' : Hp) (M' : Mp) (vs : List V) (acc : List PyData), L2.Inv X pins σ (upd H' D (.lst vs)) s4 → H' D = none → Zv X.K M' H' → Step M H M' H' → Dts X.K M' H' vs acc → ψ acc M' → (∃ m, s4.heap.Ns C m) → UG X pins (upd H' D (.lst vs)) C →
   compPost (model X.prog X.w) X.A X.xe use QQ (.ref D) C (.ok .next) s4) :
  wpAny (model X.prog X.w) X.A (comprehension (.ListComp elt [⟨tg, iter, ifs, 0⟩] scope pos) scope X.env ps (newList []) false (eval iter X.env) use) QQ X.xe s := by
 obtain ⟨wi, pi, qi⟩ := hi
 refine wpAny_comprehension_free (use := use) (cl := UU X.env scope.names []) rfl hs (Vp (MX ok I)) ok.kind ok.names ?_
 show wpAny _ _ (eval iter X.env) _ _ s
 refine thn (pi pins s σ H (fun J H' => ∃ M' ds, Zv X.K M' H' ∧ Step M H M' H' ∧ Yl X.K J ds M' H' ∧ ds.length ≤ sizeLine ∧ ∃ W : Nat → List PyData → Mp → Prop, W 0 [] M' ∧
   (∀ i d acc M', ds[i]? = some d → W i acc M' → g (.dat d) (W4 ix Δ) M' fun Δ2 M2 => tc Δ2 M2 fun b M3 => if b = true then te Δ2 M3 fun y M4 => onD y fun e => W (i + 1) (acc ++ [e]) M4 else W (i + 1) acc M3) ∧
   ∀ acc M', W ds.length acc M' → ψ acc M') I (qi σ H Δ M _ _ dr er h fun J H' M' ds a b c d => ⟨M', ds, a, b, c, d⟩)) fun x s1 h1 => thn h1 fun itv s2 h2 => ?_
 obtain ⟨it, fp, tn, J, H2, e, I2, T, st2, f2, M1, ds, dr1, stp, yl, hz, W, w0, wt, wd⟩ := h2
 subst e
 have exo : ∀ b ∈ fp, ∃ o, s2.heap.get? b = some o := fun b hb => let ⟨o, q, _⟩ := T.obj 0 _ st2 b hb; ⟨o, q⟩
 refine wpAny_newObj_type (wpAny_newFunctionEnv ok.cellF (by intro y hy; simp at hy) (fun h₁ hns₁ hsb₁ => ?_) ok.kind)
 dsimp only at hns₁ hsb₁ ⊢
 generalize hH2 : s2.heap.push { cls := .type "list", dict := none, data := .seq ([] : List Value).toArray } = HH at hns₁ hsb₁ ⊢
 have hC : HH.objs.size = s2.heap.objs.size + 1 := by rw [← hH2, Heap.size_push]
 have hDC : s2.heap.objs.size ≠ HH.objs.size := by rw [hC]; exact Nat.ne_of_lt (Nat.lt_succ_self _)
 have hCle : s2.heap.objs.size ≤ HH.objs.size := by rw [hC]; exact Nat.le_succ _
 have below : ∀ b, b < s2.heap.objs.size → b ≠ HH.objs.size ∧ b ≠ s2.heap.objs.size := fun b hb => ⟨by rw [hC]; exact Nat.ne_of_lt (Nat.lt_succ_of_lt hb), Nat.ne_of_lt hb⟩
 have old : ∀ b o, s2.heap.get? b = some o → h₁.get? b = some o := fun b o e => hsb₁.extBut b o (below b (Heap.lt_size e)).1 (Heap.get?_push_of_some _ (hH2 ▸ Heap.get?_push_of_some _ e))
 have hacc : h₁.get? s2.heap.objs.size = some { cls := .type "list", data := .seq ([] : List Value).toArray } := hsb₁.extBut _ _ hDC (Heap.get?_push_of_some _ (hH2 ▸ Heap.get?_push_size _ rfl))
 generalize hCC : HH.objs.size = C at *
 generalize hDD : s2.heap.objs.size = D at hDC hacc below hCle
 have hDs : s2.heap.objs.size ≤ D := Nat.le_of_eq hDD
 have hCs : s2.heap.objs.size ≤ C := by rw [hDD]; exact hCle
 have fD : ∀ b ∈ fp, b ≠ D ∧ b ≠ C := fun b hb => by
  obtain ⟨o, q⟩ := exo b hb
  exact ⟨(below b (by rw [← hDD]; exact Heap.lt_size q)).2, (below b (by rw [← hDD]; exact Heap.lt_size q)).1⟩
 have okY : (ZD X scope C N fp s2 H2).Ok := Uy ok I2 f2 exo hCs
 have fsD : ∀ b ∈ frs X.stack, b < s2.heap.objs.size := fun b hb => by
  obtain ⟨_, o, ho, _⟩ := I2.stack.mem hb
  exact Heap.lt_size ho
 have cellD : ∀ x c, (ZD X scope C N fp s2 H2).env.cells.lookup x = some c → c < s2.heap.objs.size ∧ H2 c = none := fun x c e => by
  have e' := (Z9 (MX ok I2) e).1
  obtain ⟨v, q⟩ := I2.cell x c e'
  exact ⟨q.lt, I2.freeC x c e'⟩
 have fpY : ∀ {H' : Hp} {ps : List (Addr × Obj)}, (∀ b ∈ fp, H' b = none) → (∀ p ∈ ps, p.1 = D) → ∀ b ∈ fp, UG (ZD X scope C N fp s2 H2) ps H' b := fun {H' ps} hn hp b hb =>
  ⟨hn b hb, (fD b hb).2, okY.exfs b hb, .inl hb, (okY.exf b hb).2, fun p hp' z => by
   have q : p ∈ ps := hp'
   rw [hp p q] at z
   exact (fD b hb).1 z.symm⟩
 have Qw : ∀ (o : Obj), ∀ p ∈ [(D, o)], p.1 = D := fun o p hp => by
  have q : p = (D, o) := by simpa using hp
  rw [q]
 have reloc : ∀ {ps : List (Addr × Obj)} {σ' : L2.St} {H' : Hp} {s' : Shared} {o : Obj}, L2.Inv (ZD X scope C N fp s2 H2) ps σ' H' s' → s'.heap.get? D = some o → H' D = none → (∀ v, o.data ≠ .cell v) →
   L2.Inv (ZD X scope C N fp s2 H2) [(D, o)] (QV ix σ) H' s' := fun {ps σ' H' s' o} J' hD hn hd => by
  obtain ⟨m, hm, _⟩ := J'.loc
  refine ⟨J'.ok, J'.os, J'.bare, J'.base, ⟨m, hm, fun i x v a b _ => WV ok I2 f2 J'.base i x v a b⟩, J'.cell, J'.free, J'.freeC, fun p hp => ?_, J'.hok, ?_⟩
  ·have q : p = (D, o) := by
    have z : p ∈ ([] : List (Addr × Obj)) ++ [(D, o)] := hp
    simpa using z
   subst q
   exact ⟨hD, hn, hDC, fun z => absurd (fsD D z) (Nat.not_lt.mpr hDs), hd⟩
  ·show (QV ix σ).length = N.length
   unfold QV
   rw [List.length_map, ok.len]
 have start : L2.Inv (ZD X scope C N fp s2 H2) [(D, { cls := .type "list", data := .seq ([] : List Value).toArray })] (QV ix σ) H2 { s2 with heap := h₁, toks := s2.toks + ([] : List (Str × Value)).length } := by
  refine ⟨okY, rfl, I2.bare, Un.kept old, ⟨_, hns₁, fun i x v a b _ => WV ok I2 f2 (Un.kept old) i x v a b⟩, fun x c e => ?_, I2.hok.fresh hCs, fun x c e => (cellD x c e).2, fun p hp => ?_, I2.hok.kept old, ?_⟩
  ·obtain ⟨v, o, ho, hd⟩ := I2.cell x c (Z9 (MX ok I2) e).1
   exact ⟨v, o, old c o ho, hd⟩
  ·have q : p = (D, { cls := .type "list", data := .seq ([] : List Value).toArray }) := by
    have z : p ∈ ([] : List (Addr × Obj)) ++ [(D, { cls := .type "list", data := .seq ([] : List Value).toArray })] := hp
    simpa using z
   subst q
   exact ⟨hacc, I2.hok.fresh hDs, hDC, fun z => absurd (fsD D z) (Nat.not_lt.mpr hDs), fun v z => nomatch z⟩
  ·show (QV ix σ).length = N.length
   unfold QV
   rw [List.length_map, ok.len]
 have loop : ∀ s₃ : Shared, s₃ = { s2 with heap := h₁, toks := s2.toks + ([] : List (Str × Value)).length } →
   codeAny (model X.prog X.w) X.A (.compLoop (.ListComp elt [⟨tg, iter, ifs, 0⟩] scope pos) 0 (.ref it) (.ref D) (compEnvC scope (UU X.env scope.names []) C X.env)) (compPost (model X.prog X.w) X.A X.xe use QQ (.ref D) C) s₃ := by
  rintro s₃ rfl
  refine X9 (fun n s' => ∃ (i : Nat) (acc : List PyData) (vs : List V) (its : List Value) (nn : Nat) (H' : Hp) (M' : Mp), L2.Inv (ZD X scope C N fp s2 H2) [(D, { cls := .type "list", data := .seq its.toArray nn })] (QV ix σ) H' s' ∧
   tn i s'.heap ∧ (∀ b ∈ fp, H' b = none) ∧ Zv X.K M' H' ∧ Step M1 H2 M' H' ∧ Vals vs its ∧ Dts X.K M' H' vs acc ∧ W i acc M' ∧ i ≤ ds.length ∧ acc.length ≤ i ∧ n = ds.length - i) ?_ ds.length
   ⟨0, [], [], [], 0, H2, M1, start, T.keep _ _ _ st2 (fun b _ o e => old b o e), fun b hb => (f2 b hb).1, dr1, Step.refl, .nil, .nil, w0, Nat.zero_le _, Nat.le_refl _, rfl⟩
  rintro n s' ⟨i, acc, vs, its, nn, H', M', IY, ti, fr, dr', stp', rv, rd, wi', hil, hal, rfl⟩
  have pinD := IY.pin (D, { cls := .type "list", data := .seq its.toArray nn }) (by simp)
  have fok := fpY (ps := [(D, { cls := .type "list", data := .seq its.toArray nn })]) fr (Qw _)
  obtain ⟨ygo, ystop⟩ := yl M' H' stp' i
  by_cases hlt : i < ds.length
  ·obtain ⟨jgo, jyl⟩ := ygo hlt
   refine thn (T.item (ZD X scope C N fp s2 H2) rfl rfl rfl hc i _ s' (QV ix σ) H' (fun _ _ => False) IY fok ti jgo) fun r s4 ⟨u, hr, h4⟩ => ?_
   subst hr
   refine thn h4 fun _ s5 ⟨x, H5, I5, r5, y5, st5, fr5⟩ => ?_
   obtain ⟨dr5, stp5, d, hd, hxd⟩ := jyl x H5 y5 dr'
   replace dr' := dr5
   replace stp' := stp'.trans stp5
   replace rd := rd.step stp5
   have I5' := I5.pinned (fpY (ps := [(D, { cls := .type "list", data := .seq its.toArray nn })]) fr5 (Qw _)) (T.obj _ _ st5)
   obtain ⟨tg', pg, qg⟩ := hg C fp s2 H2
   refine thn (pg _ s5 (QV ix σ) H5 x u (fun σ6 H6 => ∃ Δ6 M6, Zv X.K M6 H6 ∧ Step M' H5 M6 H6 ∧ Qu X.K M6 H6 σ6 Δ6 ∧ tc Δ6 M6 fun b M3 => if b = true then te Δ6 M3 fun y M4 => onD y fun e => W (i + 1) (acc ++ [e]) M4 else W (i + 1) acc M3) I5' r5
    (qg x (QV ix σ) H5 (.dat d) (W4 ix Δ) M' _ _ dr' ((er.step (stp.trans stp')).cap ix) hxd (wt i d acc M' hd wi') fun σ6 H6 Δ6 M6 a b c d => ⟨Δ6, M6, a, b, c, d⟩)) fun _ s6 ⟨σ6, H6, I6, Δ6, M6, dr6, stp6, er6, q6⟩ => ?_
   refine thn (ht C fp s2 H2 _ s6 σ6 H6 Δ6 M6 _ I6 dr6 er6 q6) fun b s7 ⟨H7, M7, I7, dr7, stp7, q7⟩ => ?_
   have keepD : ∀ {σz : L2.St} {Hz : Hp} {sz : Shared}, L2.Inv (ZD X scope C N fp s2 H2) ([(D, { cls := .type "list", data := .seq its.toArray nn })] ++ Xr fp s5.heap) σz Hz sz →
     sz.heap.get? D = some { cls := .type "list", data := .seq its.toArray nn } ∧ Hz D = none ∧ tn (i + 1) sz.heap ∧ ∀ b ∈ fp, Hz b = none := fun {σz Hz sz} Iz => by
    have a := Iz.pin (D, { cls := .type "list", data := .seq its.toArray nn }) (by simp)
    refine ⟨a.1, a.2.1, T.keep _ _ _ st5 fun b hb o e => (Iz.pin (b, o) (List.mem_append_right _ (List.mem_append_right _ (Q6 hb e)))).1, fun b hb => ?_⟩
    obtain ⟨o, e, _⟩ := T.obj _ _ st5 b hb
    exact (Iz.pin (b, o) (List.mem_append_right _ (List.mem_append_right _ (Q6 hb e)))).2.1
   cases b with
   | false =>
    have q7' : W (i + 1) acc M7 := by simpa using q7
    obtain ⟨a1, a2, a3, a4⟩ := keepD I7
    have st17 : Step M' H5 M7 H7 := stp6.trans stp7
    exact ⟨ds.length - (i + 1), by omega, i + 1, acc, vs, its, nn, H7, M7, reloc I7 a1 a2 (fun v z => nomatch z), a3, a4, dr7, stp'.trans st17, rv, rd.step st17, q7', hlt, by omega, rfl⟩
   | true =>
    have q7' : te Δ6 M7 fun y M4 => onD y fun e => W (i + 1) (acc ++ [e]) M4 := by simpa using q7
    obtain ⟨te', pe', qe'⟩ := he C fp s2 H2
    refine thn (pe' _ s7 σ6 H7 (fun v H8 => ∃ e M8, Zv X.K M8 H8 ∧ Step M7 H7 M8 H8 ∧ Dt X.K M8 H8 v e ∧ W (i + 1) (acc ++ [e]) M8) I7 (qe' σ6 H7 Δ6 M7 _ _ dr7 (er6.step stp7) q7' fun v H8 x8 M8 a b c d => by
     replace d := Qi d
     obtain ⟨e, rfl, w8⟩ := d
     exact ⟨e, M8, a, b, c, w8⟩)) fun y s8 ⟨v, H8, I8, r8, e, M8, dr8, stp8, dv8, w8⟩ => ?_
    obtain ⟨a1, a2, a3, a4⟩ := keepD I8
    have st18 : Step M' H5 M8 H8 := stp6.trans (stp7.trans stp8)
    have lv := rv.length
    have ld := rd.length
    refine call_meets PySem.F.slot_list_append ⟨_, a1, rfl⟩ PySem.F.entry_list_append (PySem.F.args_list_append_2 _ _) (PySem.list_append D its.toArray nn y (by rw [List.size_toArray]; omega)) ⟨a1, ?_⟩
    have q := PySem.IsL.update a1 (·.push y)
    have I8' : L2.Inv (ZD X scope C N fp s2 H2) [] σ6 H8 s8 := I8.Vz fun p hp => nomatch hp
    have I9 := I8'.turned (it := D) (h' := s8.heap.update D (Obj.mapSeq (·.push y))) (t' := s8.toks) (fun b o hb hu => (Heap.get?_update_other s8.heap (Obj.mapSeq (·.push y)) (Ne.symm hb)).trans hu) a2 hDC (.inr hDs)
     (fun x c e z => absurd (z ▸ (cellD x c e).1) (Nat.not_lt.mpr hDs)) (fun p hp => by have z : p ∈ ([] : List (Addr × Obj)) ++ [] := hp; simp at z)
    have ea : (its.toArray.push y) = (its ++ [y]).toArray := by simp
    rw [ea] at q
    refine ⟨ds.length - (i + 1), by omega, i + 1, acc ++ [e], vs ++ [v], its ++ [y], _, H8, M8, reloc I9 q a2 (fun v z => nomatch z), T.keep _ _ _ a3 (fun b hb o e => (Heap.get?_update_other s8.heap (Obj.mapSeq (·.push y)) (Ne.symm (fD b hb).1)).trans e), a4, dr8, stp'.trans st18,
     rv.append (.cons r8 .nil), (rd.step st18).append (.cons dv8 .nil), w8, hlt, by rw [List.length_append, List.length_singleton]; omega, rfl⟩
  ·have hie : i = ds.length := by omega
   refine thn (T.done (ZD X scope C N fp s2 H2) rfl rfl rfl hc i _ s' (QV ix σ) H' (fun _ _ => False) IY fok ti (ystop (by omega))) fun r s4 ⟨hr, I4⟩ => ?_
   subst hr
   obtain ⟨m4, hm4, _⟩ := I4.loc
   have pD := I4.pin (D, { cls := .type "list", data := .seq its.toArray nn }) (by simp)
   have hCn : H' C = none := I4.free
   have hDn : H' D = none := pD.2.1
   have hok4 : HOk X.prog X.w (upd H' D (.lst vs)) s4.heap := fun b u e => by
    by_cases hb : b = D
    ·subst hb
     rw [Qe] at e
     cases e
     exact ⟨by have := rv.length; have := rd.length; omega, its, nn, rv, pD.1⟩
    ·rw [ZA hb] at e
     refine (I4.hok b u e).L9 (fun c v hc' q => q) (fun c q => ?_) fun c xs q => ?_
     ·rw [ZA (Zo q pD.2.1)]; exact q
     ·rw [ZA (Zo q pD.2.1)]; exact q
   have bu : Un (frs X.stack) fp H2 H' s2.heap s4.heap := I4.base
   have un4 : Un (frs X.stack) fp H2 (upd H' D (.lst vs)) s2.heap s4.heap := by
    have nD : ∀ b o, s2.heap.get? b = some o → b ≠ D ∧ b ≠ C := fun b o e => ⟨fun z => absurd (z ▸ Heap.lt_size e) (Nat.not_lt.mpr hDs), fun z => absurd (z ▸ Heap.lt_size e) (Nat.not_lt.mpr hCs)⟩
    refine ⟨fun b o e n hb hx => bu.keep b o e n hb hx, fun b o e n hb hx => bu.slot b o e n hb hx, fun b o e n hx => by rw [ZA (nD b o e).1]; exact bu.free b o e n hx, fun b o e hx => bu.there b o e hx, fun b xs e => ?_, fun b o xs e => ?_, fun b ps e => ?_⟩
    ·have q := bu.tups b xs e
     rw [ZA (Zo q pD.2.1)]; exact q
    ·have q := bu.frzs b o xs e
     rw [ZA (Zo q pD.2.1)]; exact q
    ·obtain ⟨mo, q⟩ := bu.tbls b ps e
     exact ⟨mo, by rw [ZA (Zo q pD.2.1)]; exact q⟩
   have os4 : s4.os = s2.os := I4.os
   have IX : L2.Inv X pins σ (upd H' D (.lst vs)) s4 := I2.RL (s' := s4) os4 un4 hok4 I4.bare fun b hb => ⟨(f2 b hb).2.2.2.1, (f2 b hb).2.1, (f2 b hb).2.2.2.2.1, (f2 b hb).2.2.2.2.2⟩
   subst hie
   exact hfin s4 C D H' M' vs acc IX hDn dr' (stp.trans stp') rd (wd acc M' wi') ⟨m4, hm4⟩ (I2.Mz hCs (by rw [ZA (Ne.symm hDC)]; exact hCn))
 have hst₁ : tn 0 h₁ := T.keep _ _ _ st2 fun b _ o e => old b o e
 exact codeAny_compStart_list (loop _ rfl) (T.self _ 0 _ _ _ hst₁ (loop _ rfl))
theorem Ot {h h' : Heap} {C : Addr} {m : Str → Option Value} (n : h.Ns C m) (k : ∀ o, h.get? C = some o → h'.get? C = some o) : h'.Ns C m := by
 obtain ⟨o, es, ep, ho, r⟩ := n
 exact ⟨o, es, ep, k o ho, r⟩
theorem gone {pins : List (Addr × Obj)} {σ : L2.St} {H : Hp} {s : Shared} {C : Addr} {h' : Heap} (I : L2.Inv X pins σ H s) (f : UG X pins H C) (hsb : Heap.SameBut C s.heap h') : L2.Inv X pins σ H { s with heap := h' } :=
 I.turned (t' := s.toks) (fun b o hb e => hsb.extBut b o hb e) f.1 f.2.1 f.2.2.2.1 f.2.2.2.2.1 f.2.2.2.2.2
theorem ML {ow : Bool} {Φ : DK} {Q : VK} {M M' : Mp} {H H' : Hp} {D : Addr} {vs : List V} {acc : List PyData} (dr' : Zv X.K M' H') (st : Step M H M' H') (rd : Dts X.K M' H' vs acc) (hDn : H' D = none) (fin : WH ow Φ acc M') (k : Rch X.K M H Φ Q) : Q (.ref D) (upd H' D (.lst vs)) := by
 cases ow with
 | true =>
  have fin' : ∀ p, M' p = none → Φ (.own p) (ZE M' p (.lst acc)) := by simpa [WH] using fin
  exact k _ _ (.own D) _ (dr'.XT (Step.Jj hDn) rd) (st.trans (Step.Jj hDn)) rfl (fin' D (dr'.tracked hDn))
 | false =>
  have fin' : Φ (.dat (.list acc)) M' := by simpa [WH] using fin
  exact k.dat (dr'.new hDn) (st.trans (Step.new hDn)) (Dt.V0 dr' hDn rd) fin'
theorem Yt (ow : Bool) {elt tg iter : Expr} {ifs : List Expr} {scope : Scope} {pos : Pos} {src : J9} {N : List Str} {ix : List (Option Nat)} {g : DTG} {tc : DTT} {te : DTE} (ok : JD X scope N ix) (hi : DI X tg iter src)
  (hg : ∀ C ex s H, DG (ZD X scope C N ex s H) tg g) (ht : ∀ C ex s H, DTs (ZD X scope C N ex s H) ifs tc) (he : ∀ C ex s H, DE (ZD X scope C N ex s H) elt te) (hc : X.calm = true)
  (hs : ∀ x, foldedSetIterable iter X.env x = pure x := by intro _; rfl) : DE X (.ListComp elt [⟨tg, iter, ifs, 0⟩] scope pos) (Cq ow src ix g tc te) := by
 refine ⟨fun σ H Q => ∀ pins s, L2.Inv X pins σ H s → wpAny (model X.prog X.w) X.A (eval (.ListComp elt [⟨tg, iter, ifs, 0⟩] scope pos) X.env) (EP X pins σ Q) X.xe s, fun pins s σ H Q I h => h pins s I, fun σ H Δ M Φ Q dr er h k pins s I => ?_⟩
 rw [eval_ListComp]
 refine Y6 (ψ := WH ow Φ) ok hi hg ht he hc hs dr er h I fun s4 C D H' M' vs acc IX hDn dr' st rd fin hm f => ?_
 obtain ⟨m, hm⟩ := hm
 exact ⟨m, hm, fun h' hsb => ⟨.ref D, _, gone IX f hsb, rfl, ML dr' st rd hDn fin k⟩⟩
theorem LY (i : Nat) (ow : Bool) {x : Str} {pos' spos : Pos} (hN : X.N.Nodup) {elt tg iter : Expr} {ifs : List Expr} {scope : Scope} {pos : Pos} {src : J9} {N : List Str} {ix : List (Option Nat)} {g : DTG} {tc : DTT} {te : DTE} (ok : JD X scope N ix) (hi : DI X tg iter src)
  (hg : ∀ C ex s H, DG (ZD X scope C N ex s H) tg g) (ht : ∀ C ex s H, DTs (ZD X scope C N ex s H) ifs tc) (he : ∀ C ex s H, DE (ZD X scope C N ex s H) elt te) (hc : X.calm = true)
  (hs : ∀ x, foldedSetIterable iter X.env x = pure x := by intro _; rfl) (hin : X.N[i]? = some x := by rfl) (hx : Loc X.env.scope x := by first | exact Or.inl rfl | exact Or.inr rfl)
  (hsw : swapsWith (.ListComp elt [⟨tg, iter, ifs, 0⟩] scope pos) (some (.Name x pos')) spos.line X.env = pure true := by rfl)
  (hf : X.fn x = true ∨ X.env.scope.names.lookup x = some .local := by first | exact .inl rfl | exact .inr rfl | assumption) :
  DS X (.Assign [.Name x pos'] (.ListComp elt [⟨tg, iter, ifs, 0⟩] scope pos) spos) (MM (Cq ow src ix g tc te) (XD i)) := by
 refine ⟨fun E σ H => ∀ pins s, L2.Inv X pins σ H s → wpAny (model X.prog X.w) X.A (exec (.Assign [.Name x pos'] (.ListComp elt [⟨tg, iter, ifs, 0⟩] scope pos) spos) X.env) (SP X pins E) X.xe s, fun pins s σ H E I h => h pins s I, fun σ H Δ M D E dr er h k pins s I => ?_⟩
 rw [exec_Assign_Name_used _ _ _ _ hsw]
 refine wpAny_bind (wpAny_standAt (wpAny_bind ?_))
 show wpAny _ _ (do let _ ← comprehension (.ListComp elt [⟨tg, iter, ifs, 0⟩] scope pos) scope X.env _ (newList []) false (eval iter X.env) (some (assign (.Name x pos') X.env))) _ _ s
 refine wpAny_bind (wpAny_mono (Y6 (QQ := fun _ s' => SP X pins E .next s') (use := some (assign (.Name x pos') X.env)) (ψ := WH ow fun y M1 => D.nx (Δ.set i (some y)) M1) ok hi hg ht he hc hs dr er h I fun s4 C DD H' M' vs acc IX hDn dr' st rd fin hm f => ?_)
  (fun _ s' hq => wpAny_pure (wpAny_pure hq)) fun _ _ e => e)
 obtain ⟨m, hm⟩ := hm
 have hm0 := hm
 obtain ⟨oC, es, ep, hoC, hr1, hr2⟩ := hm0
 have IP : L2.Inv X (pins ++ [(C, oC)]) σ (upd H' DD (.lst vs)) s4 := IX.Vz fun p hp => by
  rcases List.mem_append.mp hp with hp | hp
  ·exact IX.pin p (List.mem_append_right _ hp)
  ·rw [List.mem_singleton.mp hp]
   exact ⟨hoC, f.1, f.2.1, f.2.2.1, fun v z => nomatch (hr1.symm.trans z)⟩
 have nxt : ∀ Q' : L2.St → Hp → Prop, (Q' (σ.set i (some (.ref DD))) (upd H' DD (.lst vs))) → wpAny (model X.prog X.w) X.A (assign (.Name x pos') X.env (.ref DD)) (fun _ s' => ∃ σ' H', L2.Inv X (pins ++ [(C, oC)]) σ' H' s' ∧ Q' σ' H') X.xe s4 := fun Q' hq =>
  Bf (pos := pos') hN hin hx hf _ s4 σ _ (.ref DD) (.ref DD) Q' IP rfl hq
 have kq : E.nx (σ.set i (some (.ref DD))) (upd H' DD (.lst vs)) := by
  cases ow with
  | true =>
   have fin' : ∀ p, M' p = none → D.nx (Δ.set i (some (.own p))) (ZE M' p (.lst acc)) := by simpa [WH] using fin
   have st2 : Step M H (ZE M' DD (.lst acc)) (upd H' DD (.lst vs)) := st.trans (Step.Jj hDn)
   exact k.nx _ _ _ _ (dr'.XT (Step.Jj hDn) rd) st2 ((er.step st2).set (v := .ref DD) (x := .own DD) rfl) (fin' DD (dr'.tracked hDn))
  | false =>
   have fin' : D.nx (Δ.set i (some (.dat (.list acc)))) M' := by simpa [WH] using fin
   have st2 : Step M H M' (upd H' DD (.lst vs)) := st.trans (Step.new hDn)
   exact k.nx _ _ _ _ (dr'.new hDn) st2 ((er.step st2).set (v := .ref DD) (x := .dat (.list acc)) (Dt.V0 dr' hDn rd)) fin'
 show wpAny _ _ (assign (.Name x pos') X.env (.ref DD)) _ _ s4
 refine thn (nxt (fun σ' H' => σ' = σ.set i (some (.ref DD)) ∧ E.nx σ' H') ⟨rfl, kq⟩) fun _ s5 ⟨σ5, H5, I5, _, q5⟩ => ?_
 have p5 := I5.pin (C, oC) (by simp)
 refine ⟨m, Ot hm fun o ho => ?_, fun h' hsb => ⟨σ5, H5, ?_, q5⟩⟩
 ·rw [hoC] at ho
  cases ho
  exact p5.1
 ·have I6 : L2.Inv X pins σ5 H5 s5 := I5.Vz fun p hp => I5.pin p (List.mem_append_right _ (List.mem_append_left _ hp))
  exact gone I6 ⟨p5.2.1, f.2⟩ hsb
end
end DL
namespace DL
open PySem PySem.Spec PyProof.Rows L2
section
variable {X : Cx}
noncomputable def Jm (xs : List DV) (M : Mp) (ns : List Int) : Prop := xs = [.dat (.list (ns.map PyData.int))] ∨ ∃ l, xs = [.own l] ∧ M l = some (.lst (ns.map PyData.int))
theorem Jm.sq {M : Mp} {H : Hp} {vs : List V} {xs : List DV} {ns : List Int} (h : Jm xs M ns) (r : Zv X.K M H) (rv : Jv X.K M H vs xs) : ∃ p, vs = [.ref p] ∧ SqL X.K H p (ns.map V.int) := by
 rcases h with rfl | ⟨l, rfl, hm⟩
 ·obtain ⟨v, rfl, h1⟩ := Paired.one rv
  obtain ⟨p, ys, rfl, g1, g2⟩ := ZU.lst h1
  rw [JL g2] at g1
  exact ⟨p, rfl, g1.sq⟩
 ·obtain ⟨v, rfl, h1⟩ := Paired.one rv
  cases (show v = .ref l from h1)
  obtain ⟨ws, g1, g2⟩ := r.ls l _ hm
  rw [JL g2] at g1
  exact ⟨l, rfl, SqL.of g1⟩
noncomputable def Lx : D1 := fun xs M Φ => ∃ ns : List Int, Jm xs M ns ∧ ns.length < 64 ∧ ∀ ns' : List Int, ns'.Perm ns → ns'.Pairwise (· ≤ ·) → Φ (.dat (.list (ns'.map PyData.int))) M
noncomputable def Nv : D1 := fun xs M Φ => ∃ ns : List Int, Jm xs M ns ∧ 0 < ns.length ∧ ∀ m ∈ ns, (∀ a ∈ ns, m ≤ a) → Φ (.dat (.int m)) M
noncomputable def MV : D1 := fun xs M Φ => ∃ ns : List Int, Jm xs M ns ∧ 0 < ns.length ∧ ∀ m ∈ ns, (∀ a ∈ ns, a ≤ m) → Φ (.dat (.int m)) M
theorem Paired.three {α β : Type} {F : α → β → Prop} {l : List α} {b c d : β} (h : Paired F l [b, c, d]) : ∃ a a' a'', l = [a, a', a''] ∧ F a b ∧ F a' c ∧ F a'' d := by
 cases h with
 | cons h1 h2 =>
  obtain ⟨a, a', rfl, h3, h4⟩ := Paired.two h2
  exact ⟨_, a, a', rfl, h1, h3, h4⟩
noncomputable def δ3I (g : Int → Int → Int → Int) : D1 := fun xs M Φ => on3 xs fun x y z => onI x fun i => onI y fun j => onI z fun l => Φ (.dat (.int (g i j l))) M
theorem UT (hc : X.calm = true) : QA X (.builtin "max") (fun xs H Q => ∃ i j l, xs = [.int i, .int j, .int l] ∧ Q (.int (max i (max j l))) H) := by
 intro pins s σ H xs us Q I r h
 obtain ⟨i, j, l, rfl, q⟩ := h
 obtain ⟨u, hu⟩ : ∃ u, us = u := ⟨us, rfl⟩
 cases r with
 | cons r1 r2 =>
  obtain ⟨u2, u3, rfl, r3, r4⟩ := vals2 r2
  obtain ⟨t1, rfl⟩ := r1
  obtain ⟨t2, rfl⟩ := r3
  obtain ⟨t3, rfl⟩ := r4
  refine max_three_ints (I.ok.hd hc) fun h' tk k => ⟨.int (max i (max j l)), H, I.kept k, ?_, q⟩
  by_cases c1 : j > i
  ·rw [if_pos c1]
   by_cases c2 : l > j
   ·rw [if_pos c2]; exact ⟨t3, by rw [show max i (max j l) = l by omega]⟩
   ·rw [if_neg c2]; exact ⟨t2, by rw [show max i (max j l) = j by omega]⟩
  ·rw [if_neg c1]
   by_cases c2 : l > i
   ·rw [if_pos c2]; exact ⟨t3, by rw [show max i (max j l) = l by omega]⟩
   ·rw [if_neg c2]; exact ⟨t1, by rw [show max i (max j l) = i by omega]⟩
theorem Ha (hc : X.calm = true) : QP X (.builtin "max") (δ3I fun i j l => max i (max j l)) := by
 refine ⟨_, UT hc, fun vs H xs M Φ Q r rv h k => ?_⟩
 replace h := XR h
 obtain ⟨x, y, z, rfl, h⟩ := h
 replace h := ZH h
 obtain ⟨i, rfl, h⟩ := h
 replace h := ZH h
 obtain ⟨j, rfl, h⟩ := h
 replace h := ZH h
 obtain ⟨l, rfl, q⟩ := h
 obtain ⟨v, u, w', rfl, h1, h2, h3⟩ := Paired.three rv
 exact ⟨i, j, l, by rw [ZU.int h1, ZU.int h2, ZU.int h3], k.dat r Step.refl (Dt.int _) q⟩
noncomputable def Gm : D1 := fun xs M Φ => on1 xs fun x => onQ x M fun ds => Φ (.dat (.tuple ds)) M
theorem Qo : QP X (.type "tuple") Gm := by
 refine ⟨_, JH, fun vs H xs M Φ Q r rv h k => ?_⟩
 replace h := Zm h
 obtain ⟨x, rfl, h⟩ := h
 replace h := Wt h
 obtain ⟨ds, hx, q⟩ := h
 have hx' : x = .dat (.list ds) ∨ x = .dat (.tuple ds) ∨ ∃ l, x = .own l ∧ M l = some (.lst ds) := by
  rcases hx with a | a | a
  ·exact .inr (.inl a)
  ·exact .inl a
  ·exact .inr (.inr a)
 rcases hx' with rfl | rfl | ⟨l, rfl, hm⟩
 ·obtain ⟨v, rfl, h1⟩ := Paired.one rv
  obtain ⟨p, ys, rfl, g1, g2⟩ := ZU.lst h1
  exact ⟨p, ys, rfl, .inl ⟨g1.sq, fun l hl => k.dat (r.new hl) (Step.new hl) (Dt.Yb r hl g2) q⟩⟩
 ·obtain ⟨v, rfl, h1⟩ := Paired.one rv
  obtain ⟨p, ys, rfl, g1, g2⟩ := ZU.tup h1
  exact ⟨p, ys, rfl, .inr ⟨g1.sq, k.dat r Step.refl (Dt.tup g1 g2) q⟩⟩
 ·obtain ⟨v, rfl, h1⟩ := Paired.one rv
  cases (show v = .ref l from h1)
  obtain ⟨ws, g1, g2⟩ := r.ls l _ hm
  exact ⟨l, ws, rfl, .inl ⟨SqL.of g1, fun l hl => k.dat (r.new hl) (Step.new hl) (Dt.Yb r hl g2) q⟩⟩
noncomputable def onW (x : DV) (P : List PyData → Prop) : Prop := match x with | .dat (.tuple ds) => P ds | .dat (.list ds) => P ds | _ => False
noncomputable def okIn (d : PyData) (ds : List PyData) : Bool := d.canLay0 && PyData.canLayAll0 ds && Nat.ble d.depth 64
noncomputable def δIn : D2 := fun x y M Φ => onD x fun d => onW y fun ds => okIn d ds = true ∧ Φ (.dat (.bool (ds.any fun e => PyData.eqv e d))) M
noncomputable def LF (to te : DTE) : DTE := fun Δ M Φ => to Δ M fun x M1 => onO x fun l => Jw (M1 l) fun _ => te Δ M1 fun y M2 => onO y fun b => Jw (M2 l) fun ds => Jw (M2 b) fun es => b ≠ l ∧ ds.length + es.length ≤ sizeLine ∧ Φ (.dat .none) (VA (ZE M2 l (.lst (ds ++ es))) b)
noncomputable def Zbu (te : DTE) (tl th : DTO) : DTE := fun Δ M Φ => te Δ M fun x M1 => tl Δ M1 fun l M2 => th Δ M2 fun u M3 => onL x fun ds => Φ (.dat (.list (cutD ds l u))) M3
noncomputable def CQ (scope sc : Scope) : List (Str × NameKind) := scope.names.map fun (n, k) => if (k == .free && sc.kind == .function && sc.names.lookup n == some .cell) then (n, .cell) else (n, k)
noncomputable def Mu (sc : Scope) (XN : List Str) (scope : Scope) (N : List Str) (ix : List (Option Nat)) (j : Nat) : Bool :=
 match N[j]?, ix[j]? with
 | some x, some (some i) => decide (XN[i]? = some x) && (decide ((x, NameKind.free) ∈ scope.names) && decide ((CQ scope sc).lookup x = some .cell))
 | _, _ => true
theorem QZ {sc : Scope} {XN : List Str} {scope : Scope} {N : List Str} {ix : List (Option Nat)} (hsc : X.env.scope = sc) (hN : X.N = XN)
  (h : scope.kind = .function ∧ (∀ y ∈ scope.names, y.2 ≠ .cell) ∧ (∀ y ∈ scope.names, y.2 = .local → scope.names.lookup y.1 = some .local) ∧ (∀ y ∈ scope.names, y.2 = .free → sc.names.lookup y.1 = some .cell) ∧ N.length = ix.length ∧
   ∀ j ∈ List.range N.length, Mu sc XN scope N ix j = true) : JD X scope N ix := by
 obtain ⟨h1, h2, h3, h4, h5, h6⟩ := h
 subst hsc hN
 refine ⟨h1, h2, h3, h4, h5, fun j x i hx hi => ?_⟩
 have hj : j < N.length := (List.getElem?_eq_some_iff.mp hx).1
 have q := h6 j (List.mem_range.mpr hj)
 unfold Mu at q
 rw [hx, hi] at q
 simp only [Bool.and_eq_true, decide_eq_true_eq] at q
 exact ⟨q.1, q.2.1, q.2.2⟩
end
end DL
namespace DL
open PySem PySem.Spec PyProof.Rows L2
theorem take_snoc {α β : Type} {l : List α} {i : Nat} {a : α} (f : α → β) (h : l[i]? = some a) : (l.take i).map f ++ [f a] = (l.take (i + 1)).map f := by
 rw [List.take_add_one, h, List.map_append]
 rfl
theorem Gi {α β : Type} {l : List α} {f : α → β} {i : Nat} {b : β} (h : (l.map f)[i]? = some b) : ∃ a, l[i]? = some a ∧ f a = b := by
 rw [List.getElem?_map] at h
 cases q : l[i]? with
 | none => rw [q] at h; cases h
 | some a => rw [q] at h; exact ⟨a, rfl, by simpa using h⟩
noncomputable def gc (Φ : DK) : DK := fun x M => ∃ ps : List Addr, Φ x (ps.foldl VA M)
theorem OZ {K : PySem.W.Frag} {M : Mp} {H : Hp} {Φ : DK} {Q : VK} (k : Rch K M H Φ Q) {v : V} {H' : Hp} {x : DV} : ∀ (ps : List Addr) (M' : Mp), Zv K M' H' → Step M H M' H' → ZU K M' H' v x → Φ x (ps.foldl VA M') → Q v H'
 | [], M', r, st, rv, f => k v H' x M' r st rv f
 | p :: ps, M', r, st, rv, f => OZ k ps (VA M' p) r.frz (st.trans Step.frz) (rv.step Step.frz) f
theorem E6 {K : PySem.W.Frag} {M : Mp} {H : Hp} {Φ : DK} {Q : VK} (k : Rch K M H Φ Q) : Rch K M H (gc Φ) Q := fun _ _ _ M' r st rv ⟨ps, f⟩ => OZ k ps M' r st rv f
theorem okG {P : Program} {w : World} {K : PySem.W.Frag} {mg : Str → Option Value} {base : Heap} {x qual : Str} {st : Stmt} {f : Addr} {fd : FuncData} {N ps : List Str} {k : Nat} {S : DSp} (F : Fun K x qual st f fd) (Sc : Zt N ps (Ze st)) (len : ∀ xs M Φ, S xs M Φ → xs.length = ps.length)
  (hbody : ∀ (cdv : Value) (A : Around) (outer : List Env) (s : Shared) (H : Hp) (E : XK), J0 k (A.deeper (envOfC qual (Ze st) s.heap.objs.size f cdv)) →
   ∃ τ, DSs (EB CX0 P w K mg base N qual (Ze st) f cdv A outer s H E).nox (Zn st) τ ∧ ∀ xs M Φ, S xs M Φ → τ { nx := fun _ M' => gc Φ (.dat .none) M', rt := gc Φ } (JZ N xs) M) : ZX P w K mg base CX0 (k + 1) f fd ps (lift K S) := by
 refine F.ok Sc (fun vs H Q E h => ?_) fun cdv A outer s H vs Q E hr h => ?_
 ·obtain ⟨xs, M, Φ, _, rv, hs, _⟩ := h
  rw [Paired.length rv]
  exact len xs M Φ hs
 ·obtain ⟨xs, M, Φ, r, rv, hs, kk⟩ := h
  obtain ⟨τ, ⟨t, p, q⟩, hτ⟩ := hbody cdv A outer s H E hr
  refine ⟨t, p, q (start N vs) H (JZ N xs) M _ _ r (Qu.start rv) (hτ xs M Φ hs) ⟨fun σ' H' Δ' M' r' st' e' hn => ?_, E6 kk, fun _ _ _ _ _ _ _ h => h.elim, fun _ _ _ _ _ _ _ h => h.elim⟩⟩
  exact (E6 kk).dat r' st' Dt.non hn
theorem Mb {Φ : DK} {x : DV} {M : Mp} {p : Addr} {o : OO} (hp : M p = none) (h : Φ x M) : gc Φ x (ZE M p o) := ⟨[p], by
 show Φ x (VA (ZE M p o) p)
 rw [Gn hp]; exact h⟩
theorem Yo {n k : Nat} (h : n < 2 ^ k) (hk : 0 < k) : n.log2 < k := by
 by_cases h0 : n = 0
 ·subst h0; simpa using hk
 ·exact (Nat.log2_lt h0).mpr h
noncomputable def Mid (i : Int) : Prop := -(10 ^ 70) ≤ i ∧ i ≤ 10 ^ 70
theorem Mid.show {i : Int} (h : Mid i) : (PyData.int i).showable = true := by
 have h1 : i.natAbs.log2 < 240 := Yo (by unfold Mid at h; omega) (by decide)
 simp only [PyData.showable, decide_eq_true_eq]
 omega
end DL
namespace DL
open PySem PySem.Spec PyProof.Rows L2
section
variable {X : Cx}
noncomputable def Nh : D1 := fun xs M Φ => ∃ ns : List Int, Jm xs M ns ∧ Φ (.dat (.int ns.sum)) M
theorem Xe : ∀ {bs : List Bool} {us : List Value}, Vals (bs.map V.bl) us → ∀ (i : Nat) (v : Value), us[i]? = some v → ∃ b, bs[i]? = some b ∧ v = .bool b
 | [], _, r, i, v, e => by rw [List.map_nil] at r; cases r; simp at e
 | b :: bs, _, r, i, v, e => by
  rw [List.map_cons] at r
  cases r with
  | cons r1 r2 =>
   cases i with
   | zero =>
    simp at e
    subst e
    exact ⟨b, rfl, r1⟩
   | succ i => simpa using Xe r2 i v (by simpa using e)
theorem Ub (bs : List Bool) : ((List.range bs.length).all fun i => (bs[i]?).getD true) = bs.all id := by
 rw [Bool.eq_iff_iff, List.all_eq_true, List.all_eq_true]
 constructor
 ·intro h b hb
  obtain ⟨i, hi, e⟩ := List.getElem_of_mem hb
  have q := h i (List.mem_range.mpr hi)
  rw [List.getElem?_eq_getElem hi, Option.getD_some, e] at q
  exact q
 ·intro h i hi
  have hi' := List.mem_range.mp hi
  rw [List.getElem?_eq_getElem hi', Option.getD_some]
  exact h _ (List.getElem_mem hi')
theorem Be {s : Shared} {h' : Heap} {o : Obj} (hk : ∀ b x, b ∉ [s.heap.objs.size] → (s.heap.push o).get? b = some x → h'.get? b = some x) : ∀ b x, s.heap.get? b = some x → h'.get? b = some x :=
 fun b x e => hk b x (fun hm => absurd (Heap.lt_size e) (by rw [List.mem_singleton.mp hm]; exact Nat.lt_irrefl _)) (Heap.get?_push_of_some _ e)
theorem Gx (hc : X.calm = true) : QA X (.builtin "all") (fun xs H Q => ∃ (p : Addr) (bs : List Bool), xs = [.ref p] ∧ SqL X.K H p (bs.map V.bl) ∧ Q (.bl (bs.all id)) H) := by
 intro pins s σ H xs us Q I r h
 obtain ⟨p, bs, rfl, hq, q⟩ := h
 obtain ⟨u, rfl, rx⟩ := vals1 r
 cases rx
 obtain ⟨its, rv, pl, hz⟩ := I.list hq
 have hl := pl.isList
 have hlt : p < s.heap.objs.size := by obtain ⟨_, e, _⟩ := hl; exact Heap.lt_size e
 refine call_all_walk (wpAny_pyIter_list hl ?_)
 refine ⟨s.heap.objs.size, [s.heap.objs.size, p], [s.heap.objs.size], its.toArray.size, _, _, fun i => (bs[i]?).getD true, rfl, Walks.list (A := X.A.in1) (I.ok.hd hc) _ p (Nat.ne_of_lt hlt) its.toArray,
  ⟨⟨_, Heap.get?_push_size _ rfl, rfl, rfl⟩, hl.push _⟩, fun i v s' Q' E' hP hQ => ?_, fun h' tk hk => ?_⟩
 ·obtain ⟨b, e, rfl⟩ := Xe rv i v (by simpa using hP)
  simp only [e, Option.getD_some] at hQ
  exact wpAny_truthy_bool hQ
 ·have e : ((List.range its.toArray.size).all fun i => (bs[i]?).getD true) = bs.all id := by
   have hln := rv.length
   rw [List.length_map] at hln
   rw [List.size_toArray, ← hln]; exact Ub bs
  rw [e]
  exact ⟨.bl _, H, I.kept (Be hk), rfl, q⟩
theorem Vu {K : PySem.W.Frag} {M : Mp} {H : Hp} : ∀ {vs : List V} {bs : List Bool}, Dts K M H vs (bs.map PyData.bool) → vs = bs.map V.bl
 | vs, [], h => by
  rw [List.map_nil] at h
  cases h
  rfl
 | vs, n :: ns, h => by
  rw [List.map_cons] at h
  cases h with
  | cons h1 h2 =>
   cases h1
   rw [Vu h2, List.map_cons]
noncomputable def EO : D1 := fun xs M Φ => ∃ bs : List Bool, xs = [.dat (.list (bs.map PyData.bool))] ∧ Φ (.dat (.bool (bs.all id))) M
noncomputable def O9 : D1 := fun xs M Φ => ∃ bs : List Bool, xs = [.dat (.list (bs.map PyData.bool))] ∧ Φ (.dat (.bool (bs.any id))) M
theorem EY (hc : X.calm = true) : QP X (.builtin "all") EO := by
 refine ⟨_, Gx hc, fun vs H xs M Φ Q r rv h k => ?_⟩
 obtain ⟨bs, rfl, q⟩ := h
 obtain ⟨v, rfl, h1⟩ := Paired.one rv
 obtain ⟨p, ys, rfl, g1, g2⟩ := ZU.lst h1
 rw [Vu g2] at g1
 exact ⟨p, bs, rfl, g1.sq, k.dat r Step.refl (Dt.bl _) q⟩
noncomputable def NF : D1 := fun xs M Φ => on1 xs fun x => onB x fun b => Φ (.dat (.int (if b = true then 1 else 0))) M
noncomputable def Zb9 (i j : Nat) (ta : DTA) : DTS := fun D Δ M => ta Δ M fun xs M1 => on2 xs fun x y => D.nx ((Δ.set i (some x)).set j (some y)) M1
noncomputable def TB (x : DV) (M : Mp) (ds : List PyData) : Prop := x = .dat (.list ds) ∨ ∃ l, x = .own l ∧ M l = some (.lst ds)
theorem TB.sq {x : DV} {M : Mp} {H : Hp} {v : V} {ds : List PyData} (h : TB x M ds) (r : Zv X.K M H) (rv : ZU X.K M H v x) : ∃ p ys, v = .ref p ∧ SqL X.K H p ys ∧ Dts X.K M H ys ds := by
 rcases h with rfl | ⟨l, rfl, hm⟩
 ·obtain ⟨p, ys, rfl, g1, g2⟩ := ZU.lst rv
  exact ⟨p, ys, rfl, g1.sq, g2⟩
 ·cases (show v = .ref l from rv)
  obtain ⟨ws, g1, g2⟩ := r.ls l _ hm
  exact ⟨l, ws, rfl, SqL.of g1, g2⟩
noncomputable def NO : D2 := fun x y M Φ => onK x M fun ds => onK y M fun es => ds.length + es.length ≤ sizeLine ∧ Φ (.dat (.list (ds ++ es))) M
noncomputable def ZbP (te : DTE) (tl th : DTO) : DTE := fun Δ M Φ => te Δ M fun x M1 => tl Δ M1 fun l M2 => th Δ M2 fun u M3 => onK x M3 fun ds => Φ (.dat (.list (cutD ds l u))) M3
noncomputable def ZcW (lo : Int) (n : Nat) : List V := (List.range n).map fun (i : Nat) => V.int (lo + (i : Int))
noncomputable def Hr (ta : DTA) : DTE := fun Δ M Φ => ta Δ M fun xs M1 => on2 xs fun x y => onI x fun i => onI y fun j => (InR i ∧ InR j) ∧ (j - i).toNat ≤ 16777216 ∧ Φ (.dat (.list (YS i (j - i).toNat))) M1
noncomputable def Zbv (i : Nat) (te : DTE) (f : Int → Int → Int) : DTS := fun D Δ M => onV Δ[i]? fun z => onI z fun a => te Δ M fun x M1 => onI x fun b => D.nx (Δ.set i (some (.dat (.int (f a b))))) M1
end
end DL
namespace DL
open PySem PySem.Spec PyProof.Rows L2
noncomputable def RR (h : Heap) (v : Value) (q : Int × Int) : Prop := ∃ a o n t u, v = .ref a ∧ h.get? a = some o ∧ o.cls = .type "tuple" ∧ o.data = .seq #[.int q.1 t, .int q.2 u] n
theorem RR.keep {h h' : Heap} {v : Value} {q : Int × Int} (p : RR h v q) (k : ∀ b o, h.get? b = some o → h'.get? b = some o) : RR h' v q := by
 obtain ⟨a, o, n, t, u, e, g, c, d⟩ := p
 exact ⟨a, o, n, t, u, e, k _ _ g, c, d⟩
noncomputable def ltP (p q : Int × Int) : Bool := if p.1 = q.1 then decide (p.2 < q.2) else decide (p.1 < q.1)
section
variable {prog : Program} {w : World} {A : Around} {E : Value → Shared → Prop} {s : Shared}
end
section
variable {prog : Program} {w : World} {A : Around} {R : Result → Shared → Prop} {I : Addr} {fp wr : List Addr} {n : Nat} {P : Nat → Value → Prop} {St : Nat → Heap → Prop}
noncomputable def ZbY (prog : Program) (w : World) (A : Around) (h0 : Heap) (P : Nat → Value → Prop) (bt : Nat → Nat → Bool) : Prop :=
 ∀ i j x y (s : Shared) (Q : Value → Shared → Prop) (E : Value → Shared → Prop), (∀ b o, h0.get? b = some o → s.heap.get? b = some o) → P i x → P j y → Q (.bool (bt i j)) s → wpAny (model prog w) A (richCompare .Lt x y) Q E s
end
section
variable {prog : Program} {w : World} {A : Around} {E : Value → Shared → Prop} {s : Shared}
end
section
variable {X : Cx}
noncomputable def OM (i j : Int) : Prop := 0 < j ∧ j.natAbs.log2 < 9000
theorem BY : OpR X (binaryOp .FloorDiv) (rI OM fun i j => .int (i / j)) := opI fun i j _ _ _ _ _ hc q => by
 have h1 : (0 : Int) < j := hc.1
 exact floordiv_int (by omega) (by rw [Int.fdiv_eq_ediv_of_nonneg i (by omega)]; exact q) (.inl (PyProof.noPylong_of_log2 hc.2))
theorem Wv : OpD X (binaryOp .FloorDiv) (δI OM fun i j => .int (i / j)) := Pp BY
noncomputable def prD (q : Int × Int) : PyData := .tuple [.int q.1, .int q.2]
noncomputable def N7 : D1 := fun xs M Φ => ∃ qs : List (Int × Int), xs = [.dat (.list (qs.map prD))] ∧ 0 < qs.length ∧ ∀ q ∈ qs, (∀ r ∈ qs, ltP r q = false) → Φ (.dat (prD q)) M
end
end DL
namespace DL
open PySem PySem.Spec PyProof.Rows L2
noncomputable def Rl {α : Type} [DecidableEq α] (ks : List α) (k : α) : Bool := decide (k ∈ ks)
noncomputable def ZaN {α : Type} [DecidableEq α] (ks : List α) (k : α) : List α := if k ∈ ks then ks else ks ++ [k]
section
variable {X : Cx}
noncomputable def LG : DTE := fun _ M Φ => ∀ p, M p = none → Φ (.own p) (ZE M p (.dct []))
noncomputable def kP (i j : Int) : List Key := [.inl i, .inl j]
noncomputable def Sq (td : DTE) (ta : DTA) (tv : DTE) : DTS := fun D Δ M => tv Δ M fun x M1 => td Δ M1 fun y M2 => ta Δ M2 fun zs M3 => onD x fun _ => onO y fun l => on2 zs fun p q => onI p fun i => onI q fun j => HP (M3 l) fun ks => ks.length < sizeLine ∧ D.nx Δ (ZE M3 l (.dct (ZaN ks (kP i j))))
noncomputable def onP (x : DV) (P : Int → Int → Prop) : Prop := match x with | .dat (.tuple [.int i, .int j]) => P i j | _ => False
theorem Mn {x : DV} {P : Int → Int → Prop} (h : onP x P) : ∃ i j, x = .dat (.tuple [.int i, .int j]) ∧ P i j := by
 unfold onP at h
 split at h
 ·exact ⟨_, _, rfl, h⟩
 ·exact h.elim
noncomputable def Si : D2 := fun x y M Φ => onP x fun i j => onO y fun l => HP (M l) fun ks => Φ (.dat (.bool (Rl ks (kP i j)))) M
end
section
variable {prog : Program} {w : World} {A : Around} {E : Value → Shared → Prop} {s : Shared}
end
section
variable {X : Cx}
noncomputable def SD (te ts : DTE) : DTE := fun Δ M Φ => te Δ M fun x M1 => ts Δ M1 fun y M2 => onT x fun ds => onI y fun i => i = -1 ∧ Φ (.dat (.tuple ds.reverse)) M2
theorem Dts.reverse {K : PySem.W.Frag} {M : Mp} {H : Hp} : ∀ {vs : List V} {ds : List PyData}, Dts K M H vs ds → Dts K M H vs.reverse ds.reverse
 | _, _, .nil => .nil
 | _, _, .cons h1 h2 => by
  rw [List.reverse_cons, List.reverse_cons]
  exact (Dts.reverse h2).append (.cons h1 .nil)
end
section
variable {prog : Program} {w : World} {A : Around} {E : Value → Shared → Prop} {s : Shared}
theorem W8 {t sl : Addr} {items : Array Value} {vl vu : Value} {lo hi : Option Int} {Q : Value → Shared → Prop} (ht : IsTup s.heap t items) (hs : s.heap.IsSliceOf sl vl vu .none) (pl : IsPart vl lo) (pu : IsPart vu hi)
  (hw : HT.sIx items.size 0 lo = 0 ∧ HT.sIx items.size items.size hi = items.size) (h : Q (.ref t) s) : wpAny (model prog w) A (getItem (.ref t) (.ref sl)) Q E s := by
 obtain ⟨os, hos, hcs, hds⟩ := id hs
 have hTs : s.TypeIs (.ref sl) "slice" := ⟨os, hos, hcs⟩
 unfold getItem
 try with_reducible refine wpAny_holding ?_
 first | refine wpAny_bind (wpAny_pure ?_) | skip
 refine wpAny_bind (wpAny_sequenceKey ht.typeIs (by decide) ?_)
 refine wpAny_bind (wpAny_callSpecial?_slot (name := Str.ofString "__getitem__") ht.typeIs PyProof.Rows.slot_tuple_getitem (wpAny_call_entry PyProof.Rows.slot_tuple_getitem ht.typeIs entry_tuple_getitem ?_ (args_tuple_getitem _ _)))
 show wpAny _ _ (Builtin.Tuple.tupleItemsOf (.ref t) >>= _) _ _ s
 refine wpAny_bind (tupleItemsOf_ ht (wpAny_bind (wpAny_typeOf hTs ?_)))
 rw [if_pos (by decide)]
 refine wpAny_bind (HT.QN hs pl pu ?_)
 rw [hw.1, hw.2, Nat.sub_zero]
 show wpAny _ _ (if ((((0 : Nat) : Int) == 0) && ((1 : Int) == 1) && (items.size == items.size)) = true then _ else _) _ _ s
 rw [if_pos (by simp)]
 unfold Builtin.Tuple.tupleIsExact
 refine wpAny_bind (wpAny_bind (wpAny_typeOf ht.typeIs (wpAny_pure ?_)))
 rw [if_pos (by decide)]
 exact wpAny_bind (wpAny_rule (wpAny_pure ⟨_, rfl, wpAny_pure h⟩))
end
section
variable {X : Cx}
noncomputable def Sd (K : PySem.W.Frag) : V → Option Int → Option Int → Hp → VK → Prop := fun x lo hi H Q => ∃ a xs, x = .ref a ∧ SqT K H a xs ∧ (HT.sIx xs.length 0 lo = 0 ∧ HT.sIx xs.length xs.length hi = xs.length) ∧ Q (.ref a) H
theorem Lo : SlR X (Sd X.K) := by
 intro pins s σ H x v vl vu lo hi sl Q I rx hs pl pu h
 obtain ⟨a, xs, rfl, hx, hw, q⟩ := h
 cases (show v = .ref a from rx)
 obtain ⟨its, r, ht, hz⟩ := I.tuple hx
 have hlen : its.toArray.size = xs.length := by rw [List.size_toArray]; exact r.length.symm
 exact ⟨"tuple", _, PyProof.Rows.slot_tuple_getitem.lookup, ht.typeIs, W8 ht hs pl pu (by rw [hlen]; exact hw) ⟨.ref a, H, I, rfl, q⟩⟩
noncomputable def O3 (te : DTE) (tl th : DTO) : DTE := fun Δ M Φ => te Δ M fun x M1 => tl Δ M1 fun l M2 => th Δ M2 fun u M3 => onT x fun ds => Φ (.dat (.tuple (cutD ds l u))) M3
theorem Ja {e : Expr} {te : DTE} {lo hi : Option Expr} {tl th : DTO} {p2 pos : Pos} (he : DE X e te) (hl : DO X lo tl) (hu : DO X hi th) : DE X (.Subscript e (.Slice lo hi none p2) pos) (O3 te tl th) := by
 obtain ⟨t1, p1, q1⟩ := he
 obtain ⟨t2, p2, q2⟩ := hl
 obtain ⟨t3, p3, q3⟩ := hu
 refine ⟨_, Er (Ox.or Lo) p1 p2 p3, fun σ H Δ M Φ Q r e h k => ?_⟩
 refine q1 σ H Δ M _ _ r e h fun v H1 x M1 r1 st rv hx => ?_
 refine q2 σ H1 Δ M1 _ _ r1 (e.step st) hx fun l H2 M2 r2 st2 hl => ?_
 refine q3 σ H2 Δ M2 _ _ r2 (e.step (st.trans st2)) hl fun u H3 M3 r3 st3 hu => ?_
 replace hu := VN hu
 obtain ⟨ds, rfl, hu⟩ := hu
 obtain ⟨a, xs, rfl, h1, h2⟩ := (rv.step (st2.trans st3)).tup
 by_cases hw : HT.sIx xs.length 0 l = 0 ∧ HT.sIx xs.length xs.length u = xs.length
 ·refine .inr ⟨a, xs, rfl, h1.sq, hw, k.dat r3 (st.trans (st2.trans st3)) (Dt.tup h1 h2) ?_⟩
  have e : cutD ds l u = ds := by
   unfold cutD
   rw [← h2.length, hw.1, hw.2, List.drop_zero, Nat.sub_zero, h2.length, List.take_length]
  rw [e] at hu
  exact hu
 ·refine .inl ⟨a, xs, rfl, h1.sq, hw, fun p hp => ?_⟩
  exact k.dat (r3.new hp) ((st.trans (st2.trans st3)).trans (Step.new hp)) (Dt.Yb r3 hp (h2.cut l u)) hu
end
section
variable {X : Cx}
noncomputable def Rn (x : DV) (M : Mp) (Φ : DK) : Prop := match x with | .dat (.list ds) => Φ (.dat (.list ds)) M | .own l => Jw (M l) fun ds => Φ (.dat (.list ds)) (VA M l) | _ => False
noncomputable def SQ (t : DTE) : DTE := fun Δ M Φ => t Δ M fun x M1 => Rn x M1 Φ
end
end DL
namespace DL
open PySem PySem.Spec PyProof.Rows L2
theorem Hg {X : Cx} {e : Expr} {τ τ' : DTE} (h : DE X e τ) (k : ∀ Δ M Φ, τ' Δ M Φ → τ Δ M Φ) : DE X e τ' := by
 obtain ⟨t, p, q⟩ := h
 exact ⟨t, p, fun σ H Δ M Φ Q a b c d => q σ H Δ M Φ Q a b (k _ _ _ c) d⟩
theorem FI {X : Cx} {s : Stmt} {τ τ' : DTS} (h : DS X s τ) (k : ∀ D Δ M, τ' D Δ M → τ D Δ M) : DS X s τ' := by
 obtain ⟨t, p, q⟩ := h
 exact ⟨t, p, fun σ H Δ M D E a b c d => q σ H Δ M D E a b (k _ _ _ c) d⟩
noncomputable def R9 (src : J9) : J9 := fun Δ M Ψ => ∃ Ψ', src Δ M Ψ' ∧ ∀ ds M1, Ψ' ds M1 → Ψ ds M1
theorem DI.mono {X : Cx} {tg iter : Expr} {src : J9} (h : DI X tg iter src) : DI X tg iter (R9 src) := by
 obtain ⟨wi, p, q⟩ := h
 exact ⟨wi, p, fun σ H Δ M Ψ R dr er ⟨Ψ', h1, h2⟩ k => q σ H Δ M Ψ' R dr er h1 fun J H' M' ds a b c d => k J H' M' ds a b c (h2 _ _ d)⟩
noncomputable def Qh (g : DTG) (tc : DTT) (te : DTE) (Δc : DSt) (fin : List PyData → Mp → Prop) : List PyData → List PyData → Mp → Prop
 | [], acc, M => fin acc M
 | d :: ds, acc, M => g (.dat d) Δc M fun Δ2 M2 => tc Δ2 M2 fun b M3 => if b = true then te Δ2 M3 fun y M4 => onD y fun e => Qh g tc te Δc fin ds (acc ++ [e]) M4 else Qh g tc te Δc fin ds acc M3
theorem G0 (g : DTG) (tc : DTT) (te : DTE) (Δc : DSt) (fin : List PyData → Mp → Prop) (acc : List PyData) (M : Mp) : Qh g tc te Δc fin [] acc M = fin acc M := by rw [Qh]
theorem Gr (g : DTG) (tc : DTT) (te : DTE) (Δc : DSt) (fin : List PyData → Mp → Prop) (d : PyData) (ds acc : List PyData) (M : Mp) : Qh g tc te Δc fin (d :: ds) acc M =
  g (.dat d) Δc M fun Δ2 M2 => tc Δ2 M2 fun b M3 => if b = true then te Δ2 M3 fun y M4 => onD y fun e => Qh g tc te Δc fin ds (acc ++ [e]) M4 else Qh g tc te Δc fin ds acc M3 := by rw [Qh]
theorem Dc {g : DTG} {tc : DTT} {te : DTE} {Δc : DSt} {fin : List PyData → Mp → Prop} {ds : List PyData} {M : Mp} (h : Qh g tc te Δc fin ds [] M) : ∃ J : Nat → List PyData → Mp → Prop, J 0 [] M ∧
 (∀ i d acc M', ds[i]? = some d → J i acc M' → g (.dat d) Δc M' fun Δ2 M2 => tc Δ2 M2 fun b M3 => if b = true then te Δ2 M3 fun y M4 => onD y fun e => J (i + 1) (acc ++ [e]) M4 else J (i + 1) acc M3) ∧
 ∀ acc M', J ds.length acc M' → fin acc M' := by
 refine ⟨fun i acc M' => Qh g tc te Δc fin (ds.drop i) acc M', by simpa using h, fun i d acc M' e k => ?_, fun acc M' k => ?_⟩
 ·have ed : ds.drop i = d :: ds.drop (i + 1) := by
   obtain ⟨hi, e'⟩ := List.getElem?_eq_some_iff.mp e
   rw [← e', List.drop_eq_getElem_cons hi]
  dsimp only at k
  rw [ed] at k
  exact k
 ·dsimp only at k
  rw [List.drop_length] at k
  exact k
noncomputable def Wm (ow : Bool) (src : J9) (ix : List (Option Nat)) (g : DTG) (tc : DTT) (te : DTE) : DTE := fun Δ M Φ => src Δ M fun ds M1 => ds.length ≤ sizeLine ∧ Qh g tc te (W4 ix Δ) (WH ow Φ) ds [] M1
theorem WI {ow : Bool} {src : J9} {ix : List (Option Nat)} {g : DTG} {tc : DTT} {te : DTE} (Δ : DSt) (M : Mp) (Φ : DK) (h : Wm ow src ix g tc te Δ M Φ) : Cq ow (R9 src) ix g tc te Δ M Φ :=
 ⟨_, h, fun _ _ ⟨a, b⟩ => ⟨a, Dc b⟩⟩
section
variable {X : Cx}
theorem Dg (ow : Bool) {elt tg iter : Expr} {ifs : List Expr} {scope : Scope} {pos : Pos} {src : J9} {N : List Str} {ix : List (Option Nat)} {g : DTG} {tc : DTT} {te : DTE} (ok : JD X scope N ix) (hi : DI X tg iter src)
  (hg : ∀ C ex s H, DG (ZD X scope C N ex s H) tg g) (ht : ∀ C ex s H, DTs (ZD X scope C N ex s H) ifs tc) (he : ∀ C ex s H, DE (ZD X scope C N ex s H) elt te) (hc : X.calm = true)
  (hs : ∀ x, foldedSetIterable iter X.env x = pure x := by intro _; rfl) : DE X (.ListComp elt [⟨tg, iter, ifs, 0⟩] scope pos) (Wm ow src ix g tc te) :=
 Hg (Yt ow ok hi.mono hg ht he hc hs) WI
theorem Ey (i : Nat) (ow : Bool) {x : Str} {pos' spos : Pos} (hN : X.N.Nodup) {elt tg iter : Expr} {ifs : List Expr} {scope : Scope} {pos : Pos} {src : J9} {N : List Str} {ix : List (Option Nat)} {g : DTG} {tc : DTT} {te : DTE} (ok : JD X scope N ix) (hi : DI X tg iter src)
  (hg : ∀ C ex s H, DG (ZD X scope C N ex s H) tg g) (ht : ∀ C ex s H, DTs (ZD X scope C N ex s H) ifs tc) (he : ∀ C ex s H, DE (ZD X scope C N ex s H) elt te) (hc : X.calm = true)
  (hs : ∀ x, foldedSetIterable iter X.env x = pure x := by intro _; rfl) (hin : X.N[i]? = some x := by rfl) (hx : Loc X.env.scope x := by first | exact Or.inl rfl | exact Or.inr rfl)
  (hsw : swapsWith (.ListComp elt [⟨tg, iter, ifs, 0⟩] scope pos) (some (.Name x pos')) spos.line X.env = pure true := by rfl)
  (hf : X.fn x = true ∨ X.env.scope.names.lookup x = some .local := by first | exact .inl rfl | exact .inr rfl | assumption) :
  DS X (.Assign [.Name x pos'] (.ListComp elt [⟨tg, iter, ifs, 0⟩] scope pos) spos) (MM (Wm ow src ix g tc te) (XD i)) :=
 FI (LY i ow hN ok hi.mono hg ht he hc hs hin hx hsw hf) fun D Δ M h => WI Δ M _ h
end
noncomputable def J6 (g : DTG) (tb : DTS) (D : Z1) : List PyData → DSt → Mp → Prop
 | [], Δ, M => D.nx Δ M
 | d :: ds, Δ, M => g (.dat d) Δ M fun Δ2 M2 => tb { D with nx := J6 g tb D ds, ct := J6 g tb D ds, bk := D.nx } Δ2 M2
theorem CJ (g : DTG) (tb : DTS) (D : Z1) (Δ : DSt) (M : Mp) : J6 g tb D [] Δ M = D.nx Δ M := by rw [J6]
theorem Cn (g : DTG) (tb : DTS) (D : Z1) (d : PyData) (ds : List PyData) (Δ : DSt) (M : Mp) : J6 g tb D (d :: ds) Δ M = g (.dat d) Δ M fun Δ2 M2 => tb { D with nx := J6 g tb D ds, ct := J6 g tb D ds, bk := D.nx } Δ2 M2 := by rw [J6]
theorem WO (lo : Int) (n : Nat) : YS lo (n + 1) = .int lo :: YS (lo + 1) n := by
 unfold YS
 rw [List.range_succ_eq_map, List.map_cons, List.map_map]
 congr 1
 ·simp
 ·refine List.map_congr_left fun i _ => ?_
  show PyData.int _ = PyData.int _
  congr 1
  simp
  omega
theorem NN (lo : Int) : YS lo 0 = [] := rfl
theorem Fd (lo : Int) : YS lo 1 = [.int lo] := by rw [WO]; rfl
theorem EU (lo : Int) : YS lo 2 = [.int lo, .int (lo + 1)] := by rw [WO, Fd]
theorem EN (lo : Int) : YS lo 3 = [.int lo, .int (lo + 1), .int (lo + 1 + 1)] := by rw [WO, EU]
theorem Mr (lo : Int) : YS lo 4 = [.int lo, .int (lo + 1), .int (lo + 1 + 1), .int (lo + 1 + 1 + 1)] := by rw [WO, EN]
theorem Dk {A B : DTS} {D : Z1} {Δ : DSt} {M : Mp} (h : ∀ R, R = B → Rj A R D Δ M) : Rj A B D Δ M := h B rfl
theorem Lp {l : List Int} {r : Int} (h0 : 0 ≤ r) (h1 : r < l.length) : ∃ w ∈ l, atI (l.map PyData.int) r = some (.int w) := by
 obtain ⟨d, e, hm⟩ := Gs (l := l.map PyData.int) h0 (by rw [List.length_map]; exact h1)
 obtain ⟨w, hw, rfl⟩ := List.mem_map.mp hm
 exact ⟨w, hw, e⟩
end DL
namespace DL
open PySem PySem.Spec PyProof.Rows L2
theorem Kz  : Zl "int" .none = false := rfl
theorem KP (b : Bool) : Zl "int" (.bool b) = true := rfl
theorem UE (i : Int) : Zl "int" (.int i) = true := rfl
theorem Uk (z : Str) : Zl "int" (.str z) = false := rfl
theorem K7 (l : List PyData) : Zl "int" (.list l) = false := rfl
theorem Xw (l : List PyData) : Zl "int" (.tuple l) = false := rfl
theorem K9 (l : List (PyData × PyData)) : Zl "int" (.dict l) = false := rfl
theorem XZ  : Zl "bool" .none = false := rfl
theorem Y9 (b : Bool) : Zl "bool" (.bool b) = true := rfl
theorem KZ (i : Int) : Zl "bool" (.int i) = false := rfl
theorem Ky (z : Str) : Zl "bool" (.str z) = false := rfl
theorem XG (l : List PyData) : Zl "bool" (.list l) = false := rfl
theorem Yp (l : List PyData) : Zl "bool" (.tuple l) = false := rfl
theorem Xy (l : List (PyData × PyData)) : Zl "bool" (.dict l) = false := rfl
theorem YT  : Zl "tuple" .none = false := rfl
theorem YA (b : Bool) : Zl "tuple" (.bool b) = false := rfl
theorem Xd (i : Int) : Zl "tuple" (.int i) = false := rfl
theorem X4 (z : Str) : Zl "tuple" (.str z) = false := rfl
theorem Yi (l : List PyData) : Zl "tuple" (.list l) = false := rfl
theorem VW (l : List PyData) : Zl "tuple" (.tuple l) = true := rfl
theorem YN (l : List (PyData × PyData)) : Zl "tuple" (.dict l) = false := rfl
theorem XC  : Zl "list" .none = false := rfl
theorem Y7 (b : Bool) : Zl "list" (.bool b) = false := rfl
theorem Ku (i : Int) : Zl "list" (.int i) = false := rfl
theorem We (z : Str) : Zl "list" (.str z) = false := rfl
theorem XA (l : List PyData) : Zl "list" (.list l) = true := rfl
theorem YU (l : List PyData) : Zl "list" (.tuple l) = false := rfl
theorem Xq (l : List (PyData × PyData)) : Zl "list" (.dict l) = false := rfl
theorem KJ  : Zl "str" .none = false := rfl
theorem Kv (b : Bool) : Zl "str" (.bool b) = false := rfl
theorem Ux (i : Int) : Zl "str" (.int i) = false := rfl
theorem W3 (z : Str) : Zl "str" (.str z) = true := rfl
theorem Kq (l : List PyData) : Zl "str" (.list l) = false := rfl
theorem Xa (l : List PyData) : Zl "str" (.tuple l) = false := rfl
theorem K8 (l : List (PyData × PyData)) : Zl "str" (.dict l) = false := rfl
theorem XX  : Zl "dict" .none = false := rfl
theorem X1 (b : Bool) : Zl "dict" (.bool b) = false := rfl
theorem KU (i : Int) : Zl "dict" (.int i) = false := rfl
theorem KS (z : Str) : Zl "dict" (.str z) = false := rfl
theorem XF (l : List PyData) : Zl "dict" (.list l) = false := rfl
theorem Yh (l : List PyData) : Zl "dict" (.tuple l) = false := rfl
theorem Xg (l : List (PyData × PyData)) : Zl "dict" (.dict l) = true := rfl
theorem S6 (i j : Int) : (PyData.int i).eqv (.int j) = decide (i = j) := by
 simp only [PyData.eqv]
 first | rfl | exact Bool.beq_eq_decide_eq _ _ | (rw [Bool.eq_iff_iff]; simp)
theorem R4 (x y : Str) : (PyData.str x).eqv (.str y) = decide (x = y) := by
 simp only [PyData.eqv]
 first | rfl | (rw [Bool.eq_iff_iff]; simp)
theorem Sf (x y : Bool) : (PyData.bool x).eqv (.bool y) = (x == y) := by
 simp only [PyData.eqv]
theorem Sn : PyData.none.eqv .none = true := by simp only [PyData.eqv]
theorem RP (x y : List PyData) : (PyData.tuple x).eqv (.tuple y) = PyData.eqvAll x y := by simp only [PyData.eqv]
theorem Td (x y : List PyData) : (PyData.list x).eqv (.list y) = PyData.eqvAll x y := by simp only [PyData.eqv]
theorem FU : PyData.eqvAll [] [] = true := by simp only [PyData.eqvAll]
theorem BZ (x y : PyData) (xs ys : List PyData) : PyData.eqvAll (x :: xs) (y :: ys) = (x.eqv y && PyData.eqvAll xs ys) := by simp only [PyData.eqvAll]
theorem NG (x : PyData) (xs : List PyData) : PyData.eqvAll (x :: xs) [] = false := by simp only [PyData.eqvAll]
theorem Me (x : PyData) (xs : List PyData) : PyData.eqvAll [] (x :: xs) = false := by simp only [PyData.eqvAll]
end DL
namespace DL
open PySem PySem.Spec PyProof.Rows L2
section
variable {X : Cx} {pos : Pos}
noncomputable def OL (tc : DTT) (tb : DTS) : DTS := fun D Δ M => ∃ J : Nat → DSt → Mp → Prop, (∃ m, J m Δ M) ∧ ∀ n Δ M, J n Δ M → tc Δ M fun b M1 =>
 if b = true then tb { D with nx := fun Δ' M' => ∃ m, m < n ∧ J m Δ' M', ct := fun Δ' M' => ∃ m, m < n ∧ J m Δ' M', bk := D.nx } Δ M1 else D.nx Δ M1
noncomputable def Zbp (to : DTE) : DTE := fun Δ M Φ => to Δ M fun x M1 => onO x fun l => ∃ ds d, M1 l = some (.lst (ds ++ [d])) ∧ Φ (.dat d) (ZE M1 l (.lst ds))
noncomputable def isNone : PyData → Bool
 | .none => true
 | _ => false
noncomputable def onN (x : DV) (P : Prop) : Prop := match x with | .dat .none => P | _ => False
noncomputable def SY (b : Bool) : D2 := fun x y M Φ => onD x fun d => onN y <| Φ (.dat (.bool (isNone d != b))) M
theorem isNone_none : isNone .none = true := rfl
theorem K1 (b : Bool) : isNone (.bool b) = false := rfl
theorem UB (b : Int) : isNone (.int b) = false := rfl
theorem Ud (b : Str) : isNone (.str b) = false := rfl
theorem KQ (b : List PyData) : isNone (.list b) = false := rfl
theorem X5 (b : List PyData) : isNone (.tuple b) = false := rfl
theorem Wc (b : List (PyData × PyData)) : isNone (.dict b) = false := rfl
noncomputable def ZcK (c : Bool) : PyData → Bool
 | .bool b => b == c
 | _ => false
noncomputable def Hv : D2 := fun x y M Φ => onD x fun d => onW y fun ds => okIn d ds = true ∧ Φ (.dat (.bool (!(ds.any fun e => PyData.eqv e d)))) M
noncomputable def Dj : D2 := fun x y M Φ => onP x fun i j => onO y fun l => HP (M l) fun ks => Φ (.dat (.bool (!Rl ks (kP i j)))) M
end
section
variable {prog : Program} {w : World} {A : Around} {E : Value → Shared → Prop} {s : Shared}
end
end DL
namespace DL
open PySem PySem.Spec PyProof.Rows L2
theorem D4 (x : DV) (P : DV → Prop) : onV (some (some x)) P = P x := propext Iff.rfl
theorem Du (i : Int) (P : Int → Prop) : onI (.dat (.int i)) P = P i := propext Iff.rfl
theorem C1 (i : Bool) (P : Bool → Prop) : onB (.dat (.bool i)) P = P i := propext Iff.rfl
theorem Cj (i : Str) (P : Str → Prop) : onS (.dat (.str i)) P = P i := propext Iff.rfl
theorem CS (i : List PyData) (P : List PyData → Prop) : onT (.dat (.tuple i)) P = P i := propext Iff.rfl
theorem Ec (i : List PyData) (P : List PyData → Prop) : onL (.dat (.list i)) P = P i := propext Iff.rfl
theorem B5 (i : PyData) (P : PyData → Prop) : onD (.dat i) P = P i := propext Iff.rfl
theorem Ce (i : Addr) (P : Addr → Prop) : onO (.own i) P = P i := propext Iff.rfl
theorem Bn (ds : List PyData) (P : List PyData → Prop) : Jw (some (.lst ds)) P = P ds := propext Iff.rfl
theorem BK (ks : List (List Key)) (P : List (List Key) → Prop) : HP (some (.dct ks)) P = P ks := propext Iff.rfl
theorem LP (ds : List PyData) (M : Mp) (P : List PyData → Prop) : onQ (.dat (.tuple ds)) M P = P ds := propext Iff.rfl
theorem Lk (ds : List PyData) (M : Mp) (P : List PyData → Prop) : onQ (.dat (.list ds)) M P = P ds := propext Iff.rfl
theorem Hm (l : Addr) (M : Mp) (P : List PyData → Prop) : onQ (.own l) M P = Jw (M l) P := propext Iff.rfl
theorem Hl (ds : List PyData) (M : Mp) (P : List PyData → Prop) : onK (.dat (.list ds)) M P = P ds := propext Iff.rfl
theorem Fu (l : Addr) (M : Mp) (P : List PyData → Prop) : onK (.own l) M P = Jw (M l) P := propext Iff.rfl
theorem C9 (x : DV) (P : DV → Prop) : on1 [x] P = P x := propext Iff.rfl
theorem DB (x y : DV) (P : DV → DV → Prop) : on2 [x, y] P = P x y := propext Iff.rfl
theorem DY (x y z : DV) (P : DV → DV → DV → Prop) : on3 [x, y, z] P = P x y z := propext Iff.rfl
theorem DZ (x0 x1 x2 x3 : DV) (P : DV → DV → DV → DV → Prop) : on4 [x0, x1, x2, x3] P = P x0 x1 x2 x3 := propext Iff.rfl
theorem Cp (x0 x1 x2 x3 x4 : DV) (P : DV → DV → DV → DV → DV → Prop) : on5 [x0, x1, x2, x3, x4] P = P x0 x1 x2 x3 x4 := propext Iff.rfl
theorem Eg (x0 x1 x2 x3 x4 x5 : DV) (P : DV → DV → DV → DV → DV → DV → Prop) : on6 [x0, x1, x2, x3, x4, x5] P = P x0 x1 x2 x3 x4 x5 := propext Iff.rfl
theorem C0 (P : List PyData → Prop) : Vl [] P = P [] := propext Iff.rfl
theorem CM (a0 : PyData) (P : List PyData → Prop) : Vl [.dat a0] P = P [a0] := propext Iff.rfl
theorem DF (a0 a1 : PyData) (P : List PyData → Prop) : Vl [.dat a0, .dat a1] P = P [a0, a1] := propext Iff.rfl
theorem CA (a0 a1 a2 : PyData) (P : List PyData → Prop) : Vl [.dat a0, .dat a1, .dat a2] P = P [a0, a1, a2] := propext Iff.rfl
theorem D7 (a0 a1 a2 a3 : PyData) (P : List PyData → Prop) : Vl [.dat a0, .dat a1, .dat a2, .dat a3] P = P [a0, a1, a2, a3] := propext Iff.rfl
theorem D9 (a0 a1 a2 a3 a4 : PyData) (P : List PyData → Prop) : Vl [.dat a0, .dat a1, .dat a2, .dat a3, .dat a4] P = P [a0, a1, a2, a3, a4] := propext Iff.rfl
theorem DM (a0 a1 a2 a3 a4 a5 : PyData) (P : List PyData → Prop) : Vl [.dat a0, .dat a1, .dat a2, .dat a3, .dat a4, .dat a5] P = P [a0, a1, a2, a3, a4, a5] := propext Iff.rfl
theorem CB (a0 a1 a2 a3 a4 a5 a6 : PyData) (P : List PyData → Prop) : Vl [.dat a0, .dat a1, .dat a2, .dat a3, .dat a4, .dat a5, .dat a6] P = P [a0, a1, a2, a3, a4, a5, a6] := propext Iff.rfl
theorem CF (a0 a1 a2 a3 a4 a5 a6 a7 : PyData) (P : List PyData → Prop) : Vl [.dat a0, .dat a1, .dat a2, .dat a3, .dat a4, .dat a5, .dat a6, .dat a7] P = P [a0, a1, a2, a3, a4, a5, a6, a7] := propext Iff.rfl
theorem De (a0 a1 a2 a3 a4 a5 a6 a7 a8 : PyData) (P : List PyData → Prop) : Vl [.dat a0, .dat a1, .dat a2, .dat a3, .dat a4, .dat a5, .dat a6, .dat a7, .dat a8] P = P [a0, a1, a2, a3, a4, a5, a6, a7, a8] := propext Iff.rfl
theorem UW (a0 a1 a2 a3 a4 a5 a6 a7 a8 a9 : PyData) (P : List PyData → Prop) : Vl [.dat a0, .dat a1, .dat a2, .dat a3, .dat a4, .dat a5, .dat a6, .dat a7, .dat a8, .dat a9] P = P [a0, a1, a2, a3, a4, a5, a6, a7, a8, a9] := propext Iff.rfl
theorem UI (a0 a1 a2 a3 a4 a5 a6 a7 a8 a9 a10 : PyData) (P : List PyData → Prop) : Vl [.dat a0, .dat a1, .dat a2, .dat a3, .dat a4, .dat a5, .dat a6, .dat a7, .dat a8, .dat a9, .dat a10] P = P [a0, a1, a2, a3, a4, a5, a6, a7, a8, a9, a10] := propext Iff.rfl
theorem By (a0 a1 a2 a3 a4 a5 a6 a7 a8 a9 a10 a11 : PyData) (P : List PyData → Prop) : Vl [.dat a0, .dat a1, .dat a2, .dat a3, .dat a4, .dat a5, .dat a6, .dat a7, .dat a8, .dat a9, .dat a10, .dat a11] P = P [a0, a1, a2, a3, a4, a5, a6, a7, a8, a9, a10, a11] := propext Iff.rfl
theorem Gg (a0 a1 a2 a3 a4 a5 a6 a7 a8 a9 a10 a11 a12 : PyData) (P : List PyData → Prop) : Vl [.dat a0, .dat a1, .dat a2, .dat a3, .dat a4, .dat a5, .dat a6, .dat a7, .dat a8, .dat a9, .dat a10, .dat a11, .dat a12] P = P [a0, a1, a2, a3, a4, a5, a6, a7, a8, a9, a10, a11, a12] := propext Iff.rfl
theorem Bw (a0 a1 a2 a3 a4 a5 a6 a7 a8 a9 a10 a11 a12 a13 : PyData) (P : List PyData → Prop) : Vl [.dat a0, .dat a1, .dat a2, .dat a3, .dat a4, .dat a5, .dat a6, .dat a7, .dat a8, .dat a9, .dat a10, .dat a11, .dat a12, .dat a13] P = P [a0, a1, a2, a3, a4, a5, a6, a7, a8, a9, a10, a11, a12, a13] := propext Iff.rfl
theorem P4 (i : Nat) (Δ : DSt) (M : Mp) (Φ : DK) : T9 i Δ M Φ = (onV Δ[i]? fun x => Φ x M) := propext Iff.rfl
theorem Za5 (d : PyData) (z0 : DSt) (M : Mp) (Φ : DK) : dC d z0 M Φ = (Φ (.dat d) M) := propext Iff.rfl
theorem Tn (n : String) (z0 : DSt) (M : Mp) (Φ : DK) : dTy n z0 M Φ = (Φ (.ty n) M) := propext Iff.rfl
theorem Se (δ : D2) (ta tb : DTE) (Δ : DSt) (M : Mp) (Φ : DK) : dOp δ ta tb Δ M Φ = (ta Δ M fun x M1 => tb Δ M1 fun y M2 => δ x y M2 Φ) := propext Iff.rfl
theorem Zba (t : DTE) (Δ : DSt) (M : Mp) (Φ : Bool → Mp → Prop) : dB t Δ M Φ = (t Δ M fun x M1 => onB x fun c => Φ c M1) := propext Iff.rfl
theorem Ef (δ δ' : D2) (ta tb tc : DTE) (Δ : DSt) (M : Mp) (Φ : DK) : WN δ δ' ta tb tc Δ M Φ = (ta Δ M fun x M1 => tb Δ M1 fun y M2 => δ x y M2 fun z M3 => onB z fun k => (if k = true then tc Δ M3 fun w' M4 => δ' y w' M4 Φ else Φ (.dat (.bool false)) M3)) := propext Iff.rfl
theorem Of (t u : DTT) (Δ : DSt) (M : Mp) (Φ : Bool → Mp → Prop) : Zaj t u Δ M Φ = (t Δ M fun c M1 => if c = true then u Δ M1 Φ else Φ false M1) := propext Iff.rfl
theorem Tp (t u : DTT) (Δ : DSt) (M : Mp) (Φ : Bool → Mp → Prop) : dOr t u Δ M Φ = (t Δ M fun c M1 => if c = true then Φ true M1 else u Δ M1 Φ) := propext Iff.rfl
theorem O1 (t : DTT) (Δ : DSt) (M : Mp) (Φ : Bool → Mp → Prop) : Zau t Δ M Φ = (t Δ M fun c M1 => Φ (!c) M1) := propext Iff.rfl
theorem LV (ta tb : DTE) (Δ : DSt) (M : Mp) (Φ : DK) : Mi ta tb Δ M Φ = (ta Δ M fun x M1 => onB x fun c => if c = true then tb Δ M1 Φ else Φ (.dat (.bool false)) M1) := propext Iff.rfl
theorem Nc (ta tb : DTE) (Δ : DSt) (M : Mp) (Φ : DK) : ZbD ta tb Δ M Φ = (ta Δ M fun x M1 => onB x fun c => if c = true then Φ (.dat (.bool true)) M1 else tb Δ M1 Φ) := propext Iff.rfl
theorem Fx (ta : DTE) (Δ : DSt) (M : Mp) (Φ : DK) : N0 ta Δ M Φ = (ta Δ M fun x M1 => onB x fun c => Φ (.dat (.bool (!c))) M1) := propext Iff.rfl
theorem Sm (t : DTT) (ta tb : DTE) (Δ : DSt) (M : Mp) (Φ : DK) : dIf t ta tb Δ M Φ = (t Δ M fun c M1 => if c = true then ta Δ M1 Φ else tb Δ M1 Φ) := propext Iff.rfl
theorem NC (g : Int → Int) (ta : DTE) (Δ : DSt) (M : Mp) (Φ : DK) : ZaO g ta Δ M Φ = (ta Δ M fun x M1 => onI x fun i => Φ (.dat (.int (g i))) M1) := propext Iff.rfl
theorem Tv (C : Int → Int → Prop) (g : Int → Int → PyData) (x : DV) (y : DV) (M : Mp) (Φ : DK) : δI C g x y M Φ = (onI x fun i => onI y fun j => C i j ∧ Φ (.dat (g i j)) M) := propext Iff.rfl
theorem PM (g : Int → Int → PyData) (x : DV) (y : DV) (M : Mp) (Φ : DK) : δI0 g x y M Φ = (onI x fun i => onI y fun j => Φ (.dat (g i j)) M) := propext Iff.rfl
theorem Ry (g : Bool → Bool → Bool) (x : DV) (y : DV) (M : Mp) (Φ : DK) : δB g x y M Φ = (onB x fun c => onB y fun d => Φ (.dat (.bool (g c d))) M) := propext Iff.rfl
theorem Ds  (x : DV) (y : DV) (M : Mp) (Φ : DK) : OI x y M Φ = (onT x fun ds => onT y fun es => ds ≠ [] ∧ ds.length + es.length ≤ sizeLine ∧ Φ (.dat (.tuple (ds ++ es))) M) := propext Iff.rfl
theorem Dl  (x : DV) (y : DV) (M : Mp) (Φ : DK) : Mt x y M Φ = (onL x fun ds => onL y fun es => ds.length + es.length ≤ sizeLine ∧ Φ (.dat (.list (ds ++ es))) M) := propext Iff.rfl
theorem UN  (x : DV) (y : DV) (M : Mp) (Φ : DK) : FV x y M Φ = (onL x fun ds => onL y fun es => ds.length + es.length ≤ sizeLine ∧ ∀ p, M p = none → Φ (.own p) (ZE M p (.lst (ds ++ es)))) := propext Iff.rfl
theorem Oi  (z0 : DSt) (M : Mp) (Φ : List DV → Mp → Prop) : ZaV z0 M Φ = (Φ [] M) := propext Iff.rfl
theorem LN (ta : DTE) (tr : DTA) (Δ : DSt) (M : Mp) (Φ : List DV → Mp → Prop) : Pt ta tr Δ M Φ = (ta Δ M fun x M1 => tr Δ M1 fun xs M2 => Φ (x :: xs) M2) := propext Iff.rfl
theorem PN (t : DTA) (Δ : DSt) (M : Mp) (Φ : DK) : TK t Δ M Φ = (t Δ M fun xs M1 => Vl xs fun ds => Φ (.dat (.tuple ds)) M1) := propext Iff.rfl
theorem NB (t : DTA) (Δ : DSt) (M : Mp) (Φ : DK) : ZaQ t Δ M Φ = (t Δ M fun xs M1 => Vl xs fun ds => Φ (.dat (.list ds)) M1) := propext Iff.rfl
theorem LI (t : DTA) (Δ : DSt) (M : Mp) (Φ : DK) : OQ t Δ M Φ = (t Δ M fun xs M1 => Vl xs fun ds => ∀ p, M1 p = none → Φ (.own p) (ZE M1 p (.lst ds))) := propext Iff.rfl
theorem Oy (t : DTE) (Δ : DSt) (M : Mp) (Φ : DK) : ZaA t Δ M Φ = (t Δ M fun x M1 => onO x fun l => Jw (M1 l) fun ds => Φ (.dat (.list ds)) (VA M1 l)) := propext Iff.rfl
theorem Cy (a : PyData) (l : List PyData) (P : PyData → Prop) : Y3 (a :: l) 0 P = P a := propext Iff.rfl
theorem Cc (a b : PyData) (l : List PyData) (P : PyData → Prop) : Y3 (a :: b :: l) 1 P = P b := propext Iff.rfl
theorem CL (a b c : PyData) (l : List PyData) (P : PyData → Prop) : Y3 (a :: b :: c :: l) 2 P = P c := propext Iff.rfl
theorem B9 (a b c d : PyData) (l : List PyData) (P : PyData → Prop) : Y3 (a :: b :: c :: d :: l) 3 P = P d := propext Iff.rfl
theorem Ct (a b c d e : PyData) (l : List PyData) (P : PyData → Prop) : Y3 (a :: b :: c :: d :: e :: l) 4 P = P e := propext Iff.rfl
theorem Ee (a b c d e f : PyData) (l : List PyData) (P : PyData → Prop) : Y3 (a :: b :: c :: d :: e :: f :: l) 5 P = P f := propext Iff.rfl
theorem CG (a b c d e f g : PyData) (l : List PyData) (P : PyData → Prop) : Y3 (a :: b :: c :: d :: e :: f :: g :: l) 6 P = P g := propext Iff.rfl
theorem Cf (a b c d e f g h : PyData) (l : List PyData) (P : PyData → Prop) : Y3 (a :: b :: c :: d :: e :: f :: g :: h :: l) 7 P = P h := propext Iff.rfl
theorem Og  (x : DV) (y : DV) (M : Mp) (Φ : DK) : δIx x y M Φ = (onQ x M fun ds => onI y fun i => Y3 ds i fun d => Φ (.dat d) M) := propext Iff.rfl
theorem RG (δ : D1) (t : DTA) (Δ : DSt) (M : Mp) (Φ : DK) : dCB δ t Δ M Φ = (t Δ M fun xs M1 => δ xs M1 Φ) := propext Iff.rfl
theorem HI  (xs : List DV) (M : Mp) (Φ : DK) : Na xs M Φ = (on1 xs fun x => onQ x M fun ds => Φ (.dat (.int ds.length)) M) := propext Iff.rfl
theorem Cb  (xs : List DV) (M : Mp) (Φ : DK) : E8 xs M Φ = (on1 xs fun x => onS x fun z => z.length ≤ sizeLine ∧ Φ (.dat (.int z.length)) M) := propext Iff.rfl
theorem Cw  (xs : List DV) (M : Mp) (Φ : DK) : E7 xs M Φ = (on1 xs fun x => onI x fun i => i.natAbs.log2 < 1920 ∧ Φ (.dat (.str (toString i))) M) := propext Iff.rfl
theorem FT  (xs : List DV) (M : Mp) (Φ : DK) : OU xs M Φ = (on1 xs fun x => onI x fun i => Φ (.dat (.int (if i < 0 then -i else i))) M) := propext Iff.rfl
theorem Py (g : Int → Int → Int) (xs : List DV) (M : Mp) (Φ : DK) : δ2I g xs M Φ = (on2 xs fun x y => onI x fun i => onI y fun j => Φ (.dat (.int (g i j))) M) := propext Iff.rfl
theorem Uc  (xs : List DV) (M : Mp) (Φ : DK) : WY xs M Φ = (on1 xs fun x => onQ x M fun ds => Φ (.dat (.list ds)) M) := propext Iff.rfl
theorem Em  (xs : List DV) (M : Mp) (Φ : DK) : E9 xs M Φ = (on1 xs fun x => onD x fun d => Shw d ∧ Φ (.dat (.str d.shown)) M) := propext Iff.rfl
theorem W5 (T : String) (d : PyData) (t : String) (M : Mp) (Φ : DK) : LJ T [.dat d, .ty t] M Φ = (t = T ∧ Φ (.dat (.bool (Zl T d))) M) := propext Iff.rfl
theorem Dy (i j : Int) (P : Bool → Prop) : eqD (.int i) (.int j) P = P (decide (i = j)) := propext Iff.rfl
theorem Co (i j : Str) (P : Bool → Prop) : eqD (.str i) (.str j) P = P (decide (i = j)) := propext Iff.rfl
theorem Cd (i j : Bool) (P : Bool → Prop) : eqD (.bool i) (.bool j) P = P (i == j) := propext Iff.rfl
theorem MT  (x : DV) (y : DV) (M : Mp) (Φ : DK) : δEq x y M Φ = (onD x fun d => onD y fun e => eqD d e fun b => Φ (.dat (.bool b)) M) := propext Iff.rfl
theorem MD  (x : DV) (y : DV) (M : Mp) (Φ : DK) : δNe x y M Φ = (onD x fun d => onD y fun e => eqD d e fun b => Φ (.dat (.bool (!b))) M) := propext Iff.rfl
theorem Hi  (x : DV) (y : DV) (M : Mp) (Φ : DK) : MS x y M Φ = (onS x fun s => onS y fun t => Φ (.dat (.bool (!decide (s = t)))) M) := propext Iff.rfl
theorem LH  (x : DV) (y : DV) (M : Mp) (Φ : DK) : Tb x y M Φ = (onS x fun s => onS y fun t => Φ (.dat (.bool (decide (s = t)))) M) := propext Iff.rfl
theorem Gk  (z0 : DSt) (M : Mp) (Φ : Option Int → Mp → Prop) : Bj z0 M Φ = (Φ none M) := propext Iff.rfl
theorem Fw (t : DTE) (Δ : DSt) (M : Mp) (Φ : Option Int → Mp → Prop) : MU t Δ M Φ = (t Δ M fun x M1 => onI x fun i => Φ (some i) M1) := propext Iff.rfl
theorem O6 (te : DTE) (tl th : DTO) (Δ : DSt) (M : Mp) (Φ : DK) : Zcb te tl th Δ M Φ = (te Δ M fun x M1 => tl Δ M1 fun l M2 => th Δ M2 fun u M3 => onT x fun ds => ¬ (HT.sIx ds.length 0 l = 0 ∧ HT.sIx ds.length ds.length u = ds.length) ∧ Φ (.dat (.tuple (cutD ds l u))) M3) := propext Iff.rfl
theorem Fp  (D : Z1) (Δ : DSt) (M : Mp) : Nb D Δ M = (D.nx Δ M) := propext Iff.rfl
theorem N2 (t u : DTS) (D : Z1) (Δ : DSt) (M : Mp) : Rj t u D Δ M = (t { D with nx := u D } Δ M) := propext Iff.rfl
theorem CO  (D : Z1) (Δ : DSt) (M : Mp) : O5 D Δ M = (D.bk Δ M) := propext Iff.rfl
theorem FR  (D : Z1) (Δ : DSt) (M : Mp) : Ss D Δ M = (D.ct Δ M) := propext Iff.rfl
theorem Fi (te : DTE) (D : Z1) (Δ : DSt) (M : Mp) : OC te D Δ M = (te Δ M fun _ M1 => D.nx Δ M1) := propext Iff.rfl
theorem NJ (te : DTE) (D : Z1) (Δ : DSt) (M : Mp) : TX te D Δ M = (te Δ M D.rt) := propext Iff.rfl
theorem Lg  (D : Z1) (z1 : DSt) (M : Mp) : SJ D z1 M = (D.rt (.dat .none) M) := propext Iff.rfl
theorem NP (c : DTT) (t u : DTS) (D : Z1) (Δ : DSt) (M : Mp) : ZaW c t u D Δ M = (c Δ M fun b M1 => if b = true then t D Δ M1 else u D Δ M1) := propext Iff.rfl
theorem YQ (i : Nat) (x : DV) (Δ : DSt) (M : Mp) (Φ : DSt → Mp → Prop) : XD i x Δ M Φ = (Φ (Δ.set i (some x)) M) := propext Iff.rfl
theorem Ur (Δ : DSt) (M : Mp) (Φ : DSt → Mp → Prop) : Nf [] Δ M Φ = Φ Δ M := propext Iff.rfl
theorem Km (t : DTG) (u : BN) (x : DV) (r : List DV) (Δ : DSt) (M : Mp) (Φ : DSt → Mp → Prop) : E4 t u (x :: r) Δ M Φ = t x Δ M fun Δ' M' => u r Δ' M' Φ := propext Iff.rfl
theorem Eh (P : List DV → Prop) : ER 0 [] P = P [] := propext Iff.rfl
theorem Df (n : Nat) (d : PyData) (r : List PyData) (P : List DV → Prop) : ER (n + 1) (d :: r) P = ER n r fun xs => P (.dat d :: xs) := propext Iff.rfl
theorem HL (n : Nat) (t : BN) (x : DV) (Δ : DSt) (M : Mp) (Φ : DSt → Mp → Prop) : PV n t x Δ M Φ = (onT x fun ds => ER n ds fun xs => t xs Δ M Φ) := propext Iff.rfl
theorem FG (to ti : DTE) (x : DV) (Δ : DSt) (M : Mp) (Φ : DSt → Mp → Prop) : Np to ti x Δ M Φ = (to Δ M fun o M1 => ti Δ M1 fun i M2 => onO o fun l => onI i fun k => onD x fun d => Jw (M2 l) fun ds => ∃ j, ixN ds.length k = some j ∧ Φ Δ (ZE M2 l (.lst (ds.set j d)))) := propext Iff.rfl
theorem MG (te : DTE) (g : DTG) (D : Z1) (Δ : DSt) (M : Mp) : MM te g D Δ M = (te Δ M fun x M1 => g x Δ M1 D.nx) := propext Iff.rfl
theorem Ga (to te : DTE) (Δ : DSt) (M : Mp) (Φ : DK) : GG to te Δ M Φ = (to Δ M fun x M1 => onO x fun l => Jw (M1 l) fun _ => te Δ M1 fun y M2 => onD y fun d => Jw (M2 l) fun ds => ds.length < sizeLine ∧ Φ (.dat .none) (ZE M2 l (.lst (ds ++ [d])))) := propext Iff.rfl
theorem Fn (te : DTE) (g : DTG) (tb : DTS) (D : Z1) (Δ : DSt) (M : Mp) : PH te g tb D Δ M = (te Δ M fun x M1 => onL x fun ds => GV g tb D ds Δ M1) := propext Iff.rfl
theorem HE (te : DTE) (g : DTG) (tb : DTS) (D : Z1) (Δ : DSt) (M : Mp) : Pq te g tb D Δ M = (te Δ M fun x M1 => onT x fun ds => GV g tb D ds Δ M1) := propext Iff.rfl
theorem C5 (ta : DTA) (g : DTG) (tb : DTS) (D : Z1) (Δ : DSt) (M : Mp) : E1 ta g tb D Δ M = (ta Δ M fun xs M1 => on1 xs fun x => onI x fun j => InR j ∧ Xp g tb D 0 j.toNat Δ M1) := propext Iff.rfl
theorem Cu (ta : DTA) (g : DTG) (tb : DTS) (D : Z1) (Δ : DSt) (M : Mp) : OV ta g tb D Δ M = (ta Δ M fun xs M1 => on2 xs fun x y => onI x fun i => onI y fun j => (InR i ∧ InR j) ∧ Xp g tb D i (j - i).toNat Δ M1) := propext Iff.rfl
theorem Ld (S : DSp) (t : DTA) (Δ : DSt) (M : Mp) (Φ : DK) : NV S t Δ M Φ = (t Δ M fun xs M1 => S xs M1 Φ) := propext Iff.rfl
theorem B2  (z0 : DSt) (M : Mp) (Φ : DK) : OH z0 M Φ = (Φ (.dat (.dict [])) M) := propext Iff.rfl
theorem UX (i : Int) (P : Key → Prop) : VS (.dat (.int i)) P = P (.inl i) := propext Iff.rfl
theorem UH (i : Str) (P : Key → Prop) : VS (.dat (.str i)) P = P (.inr i) := propext Iff.rfl
theorem DN (tk tv : DTE) (Δ : DSt) (M : Mp) (Φ : DK) : NS tk tv Δ M Φ = (tk Δ M fun x M1 => tv Δ M1 fun y M2 => VS x fun k => onD y fun d => Φ (.dat (.dict [(kD k, d)])) M2) := propext Iff.rfl
theorem Ed (tk tv tk' tv' : DTE) (Δ : DSt) (M : Mp) (Φ : DK) : Oj tk tv tk' tv' Δ M Φ = (tk Δ M fun x M1 => tv Δ M1 fun y M2 => tk' Δ M2 fun x' M3 => tv' Δ M3 fun y' M4 => VS x fun k => onD y fun d => VS x' fun k' => onD y' fun d' => k ≠ k' ∧ Φ (.dat (.dict [(kD k, d), (kD k', d')])) M4) := propext Iff.rfl
theorem Bg (tk tv : DTE) (Δ : DSt) (M : Mp) (Φ : DK) : FA tk tv Δ M Φ = (tk Δ M fun x M1 => tv Δ M1 fun y M2 => onT x fun ds => SN ds fun ks => onD y fun d => Φ (.dat (.dict [(.tuple (ks.map kD), d)])) M2) := propext Iff.rfl
theorem RO (f : PyData → Bool) (xs : List DV) (M : Mp) (Φ : DK) : sp1 f xs M Φ = (∃ d, xs = [.dat d] ∧ Φ (.dat (.bool (f d))) M) := propext Iff.rfl
theorem NH (te : DTE) (Δ : DSt) (M : Mp) (Ψ : List PyData → Mp → Prop) : Zbd te Δ M Ψ = (te Δ M fun x M1 => onL x fun ds => Ψ ds M1) := propext Iff.rfl
theorem Pz (te : DTE) (Δ : DSt) (M : Mp) (Ψ : List PyData → Mp → Prop) : ZaJ te Δ M Ψ = (te Δ M fun x M1 => onT x fun ds => Ψ ds M1) := propext Iff.rfl
theorem FE (ta : DTA) (Δ : DSt) (M : Mp) (Ψ : List PyData → Mp → Prop) : NX ta Δ M Ψ = (ta Δ M fun xs M1 => on1 xs fun x => onI x fun j => InR j ∧ Ψ (YS 0 j.toNat) M1) := propext Iff.rfl
theorem FN (ta : DTA) (Δ : DSt) (M : Mp) (Ψ : List PyData → Mp → Prop) : M0 ta Δ M Ψ = (ta Δ M fun xs M1 => on2 xs fun x y => onI x fun i => onI y fun j => (InR i ∧ InR j) ∧ Ψ (YS i (j - i).toNat) M1) := propext Iff.rfl
theorem CU (Φ : DK) (acc : List PyData) (M : Mp) : WH true Φ acc M = ∀ p, M p = none → Φ (.own p) (ZE M p (.lst acc)) := propext Iff.rfl
theorem Ek (Φ : DK) (acc : List PyData) (M : Mp) : WH false Φ acc M = Φ (.dat (.list acc)) M := propext Iff.rfl
theorem HJ (ow : Bool) (src : J9) (ix : List (Option Nat)) (g : DTG) (tc : DTT) (te : DTE) (Δ : DSt) (M : Mp) (Φ : DK) : Cq ow src ix g tc te Δ M Φ = (src Δ M fun ds M1 => ds.length ≤ sizeLine ∧ ∃ J : Nat → List PyData → Mp → Prop, J 0 [] M1 ∧ (∀ i d acc M', ds[i]? = some d → J i acc M' → g (.dat d) (W4 ix Δ) M' fun Δ2 M2 => tc Δ2 M2 fun b M3 => if b = true then te Δ2 M3 fun y M4 => onD y fun e => J (i + 1) (acc ++ [e]) M4 else J (i + 1) acc M3) ∧ ∀ acc M', J ds.length acc M' → WH ow Φ acc M') := propext Iff.rfl
theorem Ml  (z0 : DSt) (M : Mp) (Φ : Bool → Mp → Prop) : TV z0 M Φ = (Φ true M) := propext Iff.rfl
theorem Bc  (xs : List DV) (M : Mp) (Φ : DK) : Lx xs M Φ = (∃ ns : List Int, Jm xs M ns ∧ ns.length < 64 ∧ ∀ ns' : List Int, ns'.Perm ns → ns'.Pairwise (· ≤ ·) → Φ (.dat (.list (ns'.map PyData.int))) M) := propext Iff.rfl
theorem C2  (xs : List DV) (M : Mp) (Φ : DK) : Nv xs M Φ = (∃ ns : List Int, Jm xs M ns ∧ 0 < ns.length ∧ ∀ m ∈ ns, (∀ a ∈ ns, m ≤ a) → Φ (.dat (.int m)) M) := propext Iff.rfl
theorem CV  (xs : List DV) (M : Mp) (Φ : DK) : MV xs M Φ = (∃ ns : List Int, Jm xs M ns ∧ 0 < ns.length ∧ ∀ m ∈ ns, (∀ a ∈ ns, a ≤ m) → Φ (.dat (.int m)) M) := propext Iff.rfl
theorem Pr (g : Int → Int → Int → Int) (xs : List DV) (M : Mp) (Φ : DK) : δ3I g xs M Φ = (on3 xs fun x y z => onI x fun i => onI y fun j => onI z fun l => Φ (.dat (.int (g i j l))) M) := propext Iff.rfl
theorem G3  (xs : List DV) (M : Mp) (Φ : DK) : Gm xs M Φ = (on1 xs fun x => onQ x M fun ds => Φ (.dat (.tuple ds)) M) := propext Iff.rfl
theorem Hd (ds : List PyData) (P : List PyData → Prop) : onW (.dat (.tuple ds)) P = P ds := propext Iff.rfl
theorem HM (ds : List PyData) (P : List PyData → Prop) : onW (.dat (.list ds)) P = P ds := propext Iff.rfl
theorem N5  (x : DV) (y : DV) (M : Mp) (Φ : DK) : δIn x y M Φ = (onD x fun d => onW y fun ds => okIn d ds = true ∧ Φ (.dat (.bool (ds.any fun e => PyData.eqv e d))) M) := propext Iff.rfl
theorem GS (to te : DTE) (Δ : DSt) (M : Mp) (Φ : DK) : LF to te Δ M Φ = (to Δ M fun x M1 => onO x fun l => Jw (M1 l) fun _ => te Δ M1 fun y M2 => onO y fun b => Jw (M2 l) fun ds => Jw (M2 b) fun es => b ≠ l ∧ ds.length + es.length ≤ sizeLine ∧ Φ (.dat .none) (VA (ZE M2 l (.lst (ds ++ es))) b)) := propext Iff.rfl
theorem OP (te : DTE) (tl th : DTO) (Δ : DSt) (M : Mp) (Φ : DK) : Zbu te tl th Δ M Φ = (te Δ M fun x M1 => tl Δ M1 fun l M2 => th Δ M2 fun u M3 => onL x fun ds => Φ (.dat (.list (cutD ds l u))) M3) := propext Iff.rfl
theorem DP  (xs : List DV) (M : Mp) (Φ : DK) : Nh xs M Φ = (∃ ns : List Int, Jm xs M ns ∧ Φ (.dat (.int ns.sum)) M) := propext Iff.rfl
theorem Eb  (xs : List DV) (M : Mp) (Φ : DK) : EO xs M Φ = (∃ bs : List Bool, xs = [.dat (.list (bs.map PyData.bool))] ∧ Φ (.dat (.bool (bs.all id))) M) := propext Iff.rfl
theorem Dm  (xs : List DV) (M : Mp) (Φ : DK) : O9 xs M Φ = (∃ bs : List Bool, xs = [.dat (.list (bs.map PyData.bool))] ∧ Φ (.dat (.bool (bs.any id))) M) := propext Iff.rfl
theorem BU  (xs : List DV) (M : Mp) (Φ : DK) : NF xs M Φ = (on1 xs fun x => onB x fun b => Φ (.dat (.int (if b = true then 1 else 0))) M) := propext Iff.rfl
theorem OG (i j : Nat) (ta : DTA) (D : Z1) (Δ : DSt) (M : Mp) : Zb9 i j ta D Δ M = (ta Δ M fun xs M1 => on2 xs fun x y => D.nx ((Δ.set i (some x)).set j (some y)) M1) := propext Iff.rfl
theorem BQ  (x : DV) (y : DV) (M : Mp) (Φ : DK) : NO x y M Φ = (onK x M fun ds => onK y M fun es => ds.length + es.length ≤ sizeLine ∧ Φ (.dat (.list (ds ++ es))) M) := propext Iff.rfl
theorem N1 (te : DTE) (tl th : DTO) (Δ : DSt) (M : Mp) (Φ : DK) : ZbP te tl th Δ M Φ = (te Δ M fun x M1 => tl Δ M1 fun l M2 => th Δ M2 fun u M3 => onK x M3 fun ds => Φ (.dat (.list (cutD ds l u))) M3) := propext Iff.rfl
theorem Br (ta : DTA) (Δ : DSt) (M : Mp) (Φ : DK) : Hr ta Δ M Φ = (ta Δ M fun xs M1 => on2 xs fun x y => onI x fun i => onI y fun j => (InR i ∧ InR j) ∧ (j - i).toNat ≤ 16777216 ∧ Φ (.dat (.list (YS i (j - i).toNat))) M1) := propext Iff.rfl
theorem Pa (i : Nat) (te : DTE) (f : Int → Int → Int) (D : Z1) (Δ : DSt) (M : Mp) : Zbv i te f D Δ M = (onV Δ[i]? fun z => onI z fun a => te Δ M fun x M1 => onI x fun b => D.nx (Δ.set i (some (.dat (.int (f a b))))) M1) := propext Iff.rfl
theorem Dd  (xs : List DV) (M : Mp) (Φ : DK) : N7 xs M Φ = (∃ qs : List (Int × Int), xs = [.dat (.list (qs.map prD))] ∧ 0 < qs.length ∧ ∀ q ∈ qs, (∀ r ∈ qs, ltP r q = false) → Φ (.dat (prD q)) M) := propext Iff.rfl
theorem U6  (z0 : DSt) (M : Mp) (Φ : DK) : LG z0 M Φ = (∀ p, M p = none → Φ (.own p) (ZE M p (.dct []))) := propext Iff.rfl
theorem Ho (td : DTE) (ta : DTA) (tv : DTE) (D : Z1) (Δ : DSt) (M : Mp) : Sq td ta tv D Δ M = (tv Δ M fun x M1 => td Δ M1 fun y M2 => ta Δ M2 fun zs M3 => onD x fun _ => onO y fun l => on2 zs fun p q => onI p fun i => onI q fun j => HP (M3 l) fun ks => ks.length < sizeLine ∧ D.nx Δ (ZE M3 l (.dct (ZaN ks (kP i j))))) := propext Iff.rfl
theorem C8 (i j : Int) (P : Int → Int → Prop) : onP (.dat (.tuple [.int i, .int j])) P = P i j := propext Iff.rfl
theorem Li  (x : DV) (y : DV) (M : Mp) (Φ : DK) : Si x y M Φ = (onP x fun i j => onO y fun l => HP (M l) fun ks => Φ (.dat (.bool (Rl ks (kP i j)))) M) := propext Iff.rfl
theorem HY (te ts : DTE) (Δ : DSt) (M : Mp) (Φ : DK) : SD te ts Δ M Φ = (te Δ M fun x M1 => ts Δ M1 fun y M2 => onT x fun ds => onI y fun i => i = -1 ∧ Φ (.dat (.tuple ds.reverse)) M2) := propext Iff.rfl
theorem FP (te : DTE) (tl th : DTO) (Δ : DSt) (M : Mp) (Φ : DK) : O3 te tl th Δ M Φ = (te Δ M fun x M1 => tl Δ M1 fun l M2 => th Δ M2 fun u M3 => onT x fun ds => Φ (.dat (.tuple (cutD ds l u))) M3) := propext Iff.rfl
theorem D5 (ds : List PyData) (M : Mp) (Φ : DK) : Rn (.dat (.list ds)) M Φ = Φ (.dat (.list ds)) M := propext Iff.rfl
theorem C3 (l : Addr) (M : Mp) (Φ : DK) : Rn (.own l) M Φ = Jw (M l) fun ds => Φ (.dat (.list ds)) (VA M l) := propext Iff.rfl
theorem Lw (t : DTE) (Δ : DSt) (M : Mp) (Φ : DK) : SQ t Δ M Φ = (t Δ M fun x M1 => Rn x M1 Φ) := propext Iff.rfl
theorem Ms (src : J9) (Δ : DSt) (M : Mp) (Ψ : List PyData → Mp → Prop) : R9 src Δ M Ψ = (∃ Ψ', src Δ M Ψ' ∧ ∀ ds M1, Ψ' ds M1 → Ψ ds M1) := propext Iff.rfl
theorem Dw (ow : Bool) (src : J9) (ix : List (Option Nat)) (g : DTG) (tc : DTT) (te : DTE) (Δ : DSt) (M : Mp) (Φ : DK) : Wm ow src ix g tc te Δ M Φ = (src Δ M fun ds M1 => ds.length ≤ sizeLine ∧ Qh g tc te (W4 ix Δ) (WH ow Φ) ds [] M1) := propext Iff.rfl
theorem Di (tc : DTT) (tb : DTS) (D : Z1) (Δ : DSt) (M : Mp) : OL tc tb D Δ M = (∃ J : Nat → DSt → Mp → Prop, (∃ m, J m Δ M) ∧ ∀ n Δ M, J n Δ M → tc Δ M fun b M1 => if b = true then tb { D with nx := fun Δ' M' => ∃ m, m < n ∧ J m Δ' M', ct := fun Δ' M' => ∃ m, m < n ∧ J m Δ' M', bk := D.nx } Δ M1 else D.nx Δ M1) := propext Iff.rfl
theorem NM (to : DTE) (Δ : DSt) (M : Mp) (Φ : DK) : Zbp to Δ M Φ = (to Δ M fun x M1 => onO x fun l => ∃ ds d, M1 l = some (.lst (ds ++ [d])) ∧ Φ (.dat d) (ZE M1 l (.lst ds))) := propext Iff.rfl
theorem C4 (P : Prop) : onN (.dat .none) P = P := propext Iff.rfl
theorem FQ (b : Bool) (x : DV) (y : DV) (M : Mp) (Φ : DK) : SY b x y M Φ = (onD x fun d => onN y <| Φ (.dat (.bool (isNone d != b))) M) := propext Iff.rfl
theorem Bv  (x : DV) (y : DV) (M : Mp) (Φ : DK) : Hv x y M Φ = (onD x fun d => onW y fun ds => okIn d ds = true ∧ Φ (.dat (.bool (!(ds.any fun e => PyData.eqv e d)))) M) := propext Iff.rfl
theorem UA  (x : DV) (y : DV) (M : Mp) (Φ : DK) : Dj x y M Φ = (onP x fun i j => onO y fun l => HP (M l) fun ks => Φ (.dat (.bool (!Rl ks (kP i j)))) M) := propext Iff.rfl
end DL
namespace DL
open PySem PySem.Spec PyProof.Rows L2
noncomputable def L4 (x : Str) (lo hi : Option Int) : Str := ⟨((x.cps.toList.drop (HT.sIx x.length 0 lo)).take (HT.sIx x.length x.length hi - HT.sIx x.length 0 lo)).toArray⟩
section
variable {X : Cx} {a b : Expr} {ta tb : DTE} {pos : Pos}
noncomputable def ZcE : V → Option Int → Option Int → Hp → VK → Prop := fun x lo hi H Q => ∃ z, x = .str z ∧ z.length ≤ sizeLine ∧ Q (.str (L4 z lo hi)) H
noncomputable def Zbg (te : DTE) (tl th : DTO) : DTE := fun Δ M Φ => te Δ M fun x M1 => tl Δ M1 fun l M2 => th Δ M2 fun u M3 => onS x fun s => s.length ≤ sizeLine ∧ Φ (.dat (.str (L4 s l u))) M3
noncomputable def SX : D2 := fun x y M Φ => onS x fun s => onI y fun i => s.length ≤ sizeLine ∧ ∃ c, L2.atI s.cps.toList i = some c ∧ Φ (.dat (.str ⟨#[c]⟩)) M
noncomputable def OB : D2 := fun x y M Φ => onS x fun s => onS y fun t => s.length + t.length ≤ sizeLine ∧ Φ (.dat (.str (s ++ t))) M
noncomputable def Zas (s : Str) (n : Nat) : Str := ⟨((List.replicate n s.cps.toList).flatten).toArray⟩
noncomputable def OX : D2 := fun x y M Φ => onS x fun s => onI y fun i => (1 ≤ i ∧ i ≤ 1000 ∧ s.length ≤ 1000) ∧ Φ (.dat (.str (Zas s i.toNat))) M
noncomputable def S1 : D2 := fun x y M Φ => onS x fun s => onS y fun t => Φ (.dat (.bool (!decide (t.cps.toList < s.cps.toList)))) M
noncomputable def Its (x : Str) : It := ⟨fun i _ => i < x.length, fun i H y H' => H' = H ∧ ∃ c, x.cps[i]? = some c ∧ y = .str ⟨#[c]⟩, fun i _ => x.length ≤ i⟩
noncomputable def ZcD (tl : TE) : TI := fun σ H R => tl σ H fun x H1 => ∃ z, x = .str z ∧ R (Its z) H1
noncomputable def Ma (c : Nat) : PyData := .str ⟨#[c]⟩
noncomputable def Zcd (te : DTE) : J9 := fun Δ M Ψ => te Δ M fun x M1 => onS x fun s => Ψ (s.cps.toList.map Ma) M1
noncomputable def L0 : D1 := fun xs M Φ => on1 xs fun x => onS x fun s => s.length ≤ sizeLine ∧ Φ (.dat (.list (s.cps.toList.map Ma))) M
noncomputable def Px : D1 := fun xs M Φ => on1 xs fun x => onS x fun s => s.length ≤ sizeLine ∧ Φ (.dat (.tuple (s.cps.toList.map Ma))) M
noncomputable def rJoin (K : PySem.W.Frag) : V → List V → Hp → VK → Prop := fun x xs H Q => ∃ z p ss, x = .str z ∧ xs = [.ref p] ∧ SqL K H p (ss.map V.str) ∧ JoinOk z ss = true ∧ Q (.str (Txt.join z ss)) H
noncomputable def TL (ds : List PyData) (P : List Str → Prop) : Prop := ∃ ss, ds = ss.map PyData.str ∧ P ss
noncomputable def SS (to te : DTE) : DTE := fun Δ M Φ => to Δ M fun x M1 => onS x fun z => te Δ M1 fun y M2 => onK y M2 fun ds => TL ds fun ss => JoinOk z ss = true ∧ Φ (.dat (.str (Txt.join z ss))) M2
noncomputable def rUp : V → List V → Hp → VK → Prop := fun x xs H Q => ∃ z, x = .str z ∧ xs = [] ∧ z.length ≤ 1000 ∧ Q (.str (Txt.upper z)) H
noncomputable def PZ (to : DTE) : DTE := fun Δ M Φ => to Δ M fun x M1 => onS x fun z => z.length ≤ 1000 ∧ Φ (.dat (.str (Txt.upper z))) M1
end
theorem Ph (te : DTE) (tl th : DTO) (Δ : DSt) (M : Mp) (Φ : DK) : Zbg te tl th Δ M Φ = (te Δ M fun x M1 => tl Δ M1 fun l M2 => th Δ M2 fun u M3 => onS x fun s => s.length ≤ sizeLine ∧ Φ (.dat (.str (L4 s l u))) M3) := propext Iff.rfl
theorem LR (x y : DV) (M : Mp) (Φ : DK) : SX x y M Φ = (onS x fun s => onI y fun i => s.length ≤ sizeLine ∧ ∃ c, L2.atI s.cps.toList i = some c ∧ Φ (.dat (.str ⟨#[c]⟩)) M) := propext Iff.rfl
theorem B7 (x y : DV) (M : Mp) (Φ : DK) : OB x y M Φ = (onS x fun s => onS y fun t => s.length + t.length ≤ sizeLine ∧ Φ (.dat (.str (s ++ t))) M) := propext Iff.rfl
theorem BX (x y : DV) (M : Mp) (Φ : DK) : OX x y M Φ = (onS x fun s => onI y fun i => (1 ≤ i ∧ i ≤ 1000 ∧ s.length ≤ 1000) ∧ Φ (.dat (.str (Zas s i.toNat))) M) := propext Iff.rfl
theorem Lr (x y : DV) (M : Mp) (Φ : DK) : S1 x y M Φ = (onS x fun s => onS y fun t => Φ (.dat (.bool (!decide (t.cps.toList < s.cps.toList)))) M) := propext Iff.rfl
theorem Oe (te : DTE) (Δ : DSt) (M : Mp) (Ψ : List PyData → Mp → Prop) : Zcd te Δ M Ψ = (te Δ M fun x M1 => onS x fun s => Ψ (s.cps.toList.map Ma) M1) := propext Iff.rfl
theorem BM (xs : List DV) (M : Mp) (Φ : DK) : L0 xs M Φ = (on1 xs fun x => onS x fun s => s.length ≤ sizeLine ∧ Φ (.dat (.list (s.cps.toList.map Ma))) M) := propext Iff.rfl
theorem CN (xs : List DV) (M : Mp) (Φ : DK) : Px xs M Φ = (on1 xs fun x => onS x fun s => s.length ≤ sizeLine ∧ Φ (.dat (.tuple (s.cps.toList.map Ma))) M) := propext Iff.rfl
theorem Hh (to te : DTE) (Δ : DSt) (M : Mp) (Φ : DK) : SS to te Δ M Φ = (to Δ M fun x M1 => onS x fun z => te Δ M1 fun y M2 => onK y M2 fun ds => TL ds fun ss => JoinOk z ss = true ∧ Φ (.dat (.str (Txt.join z ss))) M2) := propext Iff.rfl
theorem Eo (to : DTE) (Δ : DSt) (M : Mp) (Φ : DK) : PZ to Δ M Φ = (to Δ M fun x M1 => onS x fun z => z.length ≤ 1000 ∧ Φ (.dat (.str (Txt.upper z))) M1) := propext Iff.rfl
theorem str_len (s : Str) : s.cps.toList.length = s.length := by simp [Str.length]
theorem add_list (s t : Str) : (s ++ t).cps.toList = s.cps.toList ++ t.cps.toList := by rw [Str.cps_append, Array.toList_append]
theorem RJ (s t : Str) : (s ++ t).length = s.length + t.length := Str.length_append s t
theorem Yx (c : Nat) : (⟨#[c]⟩ : Str).cps.toList = [c] := rfl
theorem Sl (c : Nat) : (⟨#[c]⟩ : Str).length = 1 := rfl
theorem Wj (s : Str) (lo hi : Option Int) : (L4 s lo hi).cps.toList = (s.cps.toList.drop (HT.sIx s.length 0 lo)).take (HT.sIx s.length s.length hi - HT.sIx s.length 0 lo) := rfl
theorem Te {s : Str} {lo hi : Option Int} {c : Nat} (h : c ∈ (L4 s lo hi).cps.toList) : c ∈ s.cps.toList := by
 rw [Wj] at h
 exact List.mem_of_mem_drop (List.mem_of_mem_take h)
theorem R7 (s : Str) (lo hi : Option Int) : (L4 s lo hi).length = HT.sIx s.length s.length hi - HT.sIx s.length 0 lo := by
 have l1 := HT.EC s.length s.length (Nat.le_refl _) hi
 rw [← str_len, Wj, List.length_take, List.length_drop, str_len]
 omega
theorem Zah {n d : Nat} {i : Int} (h0 : 0 ≤ i) : HT.sIx n d (some i) = min i.toNat n := by
 obtain ⟨k, rfl⟩ := Int.eq_ofNat_of_zero_le h0
 rw [HT.GQ]
 rfl
theorem join_list : ∀ ss : List Str, (Txt.join (Str.ofString "") ss).cps.toList = (ss.map (·.cps.toList)).flatten := by
 have e0 : (Str.ofString "").cps.toList = [] := by decide +kernel
 have go : ∀ ss : List Str, (Str.join (Str.ofString "") ss).cps.toList = (ss.map (·.cps.toList)).flatten := fun ss => by
  induction ss with
  | nil => rfl
  | cons s ss ih =>
   cases ss with
   | nil => simp [Str.join]
   | cons t ss =>
    rw [Str.join, add_list, add_list, e0, ih]
    ·simp
    ·simp
 intro ss
 have : Txt.join (Str.ofString "") ss = Str.join (Str.ofString "") ss := by
  exact StrLaws.glued_eq_join _ _
 rw [this, go]
theorem Tu {sep : Str} {ss : List Str} {B : Nat} (hB : ∀ y ∈ ss, y.length ≤ B) (h : ss.length * B + ss.length * sep.length ≤ 16777216) : JoinOk sep ss = true := by
 unfold JoinOk
 rw [StrLaws.joinFits hB h]
 rfl
end DL
namespace DL
open PySem PySem.Spec PyProof.Rows L2 PySem.W
section
variable {n : Nat} {lt : Nat → Nat → Bool}
noncomputable def KOk (n : Nat) (lt : Nat → Nat → Bool) {α : Type} : KasT α → (α → Prop) → Prop
 | .ret a, Q => Q a
 | .ask i j k, Q => i < n ∧ j < n ∧ i ≠ j ∧ KOk n lt (k (lt i j)) Q
noncomputable def Le (lt : Nat → Nat → Bool) (a b : Nat) : Prop := lt b a = false
structure Ord (lt : Nat → Nat → Bool) : Prop where
 asym : ∀ a b, lt a b = true → lt b a = false
 tran : ∀ a b c, Le lt a b → Le lt b c → Le lt a c
theorem Ord.refl (o : Ord lt) (a : Nat) : Le lt a a := by
 unfold Le
 cases h : lt a a with
 | false => rfl
 | true => have := o.asym a a h; rw [h] at this; cases this
noncomputable abbrev at' (p : Array Nat) (k : Nat) : Nat := p.getD k 0
noncomputable def Up (lt : Nat → Nat → Bool) (p : Array Nat) (m : Nat) : Prop := ∀ i j, i ≤ j → j < m → Le lt (at' p i) (at' p j)
noncomputable def Dn (lt : Nat → Nat → Bool) (p : Array Nat) (m : Nat) : Prop := ∀ i j, i ≤ j → j < m → Le lt (at' p j) (at' p i)
noncomputable def Pm (n : Nat) (p : Array Nat) : Prop := p.Perm (List.range n).toArray
noncomputable def Blk (lt : Nat → Nat → Bool) (p : Array Nat) (m q : Nat) : Prop := ∀ i j, m - (q + 1) ≤ i → i < m → m - (q + 1) ≤ j → j < m → Le lt (at' p i) (at' p j)
noncomputable def Cnt (n : Nat) (lt : Nat → Nat → Bool) (r : Nat × Array Nat) : Prop := Pm n r.2 ∧ r.1 ≤ n ∧ Up lt r.2 r.1
end
end DL
namespace DL
open PySem PySem.Spec PyProof.Rows L2 PySem.W
section
variable {prog : Program} {w : World} {A : Around} {E : Value → Shared → Prop} {s : Shared} {lt : Nat → Nat → Bool}
noncomputable abbrev Zci (vs : List Value) (q : Array Nat) : Array Value := List.toArray (q.toList.map fun i => vs.getD i Value.none)
end
noncomputable def P9 : PyData → Option Str
 | .tuple (.str s :: _) => some s
 | _ => none
noncomputable def ltK (ks : List Str) (i j : Nat) : Bool := decide ((ks.getD i Str.empty).cps.toList < (ks.getD j Str.empty).cps.toList)
section
variable {X : Cx}
noncomputable def ZaY (K : PySem.W.Frag) : List V → Hp → VK → Prop := fun xs H Q => ∃ (p : Addr) (M : Mp) (vs : List V) (ds : List PyData) (ks : List Str), xs = [.ref p] ∧ SqL K H p vs ∧ Dts K M H vs ds ∧ ds.map P9 = ks.map some ∧ ks.Nodup ∧ ds.length < 64 ∧
 ∀ q, Pm ds.length q → Up (ltK ks) q ds.length → ∀ l, H l = none → Q (.ref l) (upd H l (.lst (q.toList.map fun i => vs.getD i .non)))
noncomputable def leK (a b : PyData) : Prop := ∀ s t, P9 a = some s → P9 b = some t → ¬ t.cps.toList < s.cps.toList
noncomputable def SM : D1 := fun xs M Φ => on1 xs fun x => onK x M fun ds => ∃ ks : List Str, ds.map P9 = ks.map some ∧ ks.Nodup ∧ ds.length < 64 ∧ ∀ ds' : List PyData, ds'.Perm ds → ds'.Pairwise leK → Φ (.dat (.list ds')) M
end
end DL
namespace DL
open PySem PySem.Spec PyProof.Rows L2 PySem.W
section
variable {prog : Program} {w : World} {A : Around} {E : Value → Shared → Prop} {s : Shared}
noncomputable def LAt (a : Addr) (h : Heap) : Prop := ∃ xs n sl, h.get? a = some { cls := .type "list", data := .seq xs n, slots := sl }
variable {K : Type} [DecidableEq K] {knd : KeyKind prog w K}
noncomputable def Zb8 (h : Heap) (v key val : Value) : Prop := ∃ a o c, v = .ref a ∧ h.get? a = some o ∧ o.cls = .type "tuple" ∧ o.data = .seq #[key, val] c
end
section
variable {X : Cx}
noncomputable def V2 (K : PySem.W.Frag) (H : Hp) (v : V) (p : Key × V) : Prop := ∃ a, v = .ref a ∧ SqT K H a [kV p.1, p.2]
noncomputable def T2 (K : PySem.W.Frag) : List V → Hp → VK → Prop := fun xs H Q => ∃ (a : Addr) (vs : List V) (ps : List (Key × V)), xs = [.ref a] ∧ SqL K H a vs ∧ vs.length = ps.length ∧ (∀ (j : Nat) (p : Key × V), ps[j]? = some p → ∃ v, vs[j]? = some v ∧ V2 K H v p) ∧
 ∀ l, H l = none → Q (.ref l) (upd H l (.dK (ps.foldl (fun m p => putK m p.1 p.2) [])))
end
end DL
namespace DL
open PySem PySem.Spec PyProof.Rows L2
noncomputable def Kg (o : Option OO) (P : List (Key × PyData) → Prop) : Prop := match o with | some (.dkv ps) => P ps | _ => False
noncomputable def Qv (ps : List (Key × PyData)) (k : Key) : Option PyData := (ps.find? fun kv => decide (kv.1 = k)).map (·.2)
noncomputable def BV (ps : List (Key × PyData)) (k : Key) (d : PyData) : List (Key × PyData) := if (ps.any fun kv => decide (kv.1 = k)) = true then ps.map (fun kv => if kv.1 = k then (kv.1, d) else kv) else ps ++ [(k, d)]
section
variable {K : PySem.W.Frag} {M : Mp} {H : Hp}
inductive KD (K : PySem.W.Frag) (M : Mp) (H : Hp) : List (Key × V) → List (Key × PyData) → Prop
 | nil : KD K M H [] []
 | cons {k : Key} {v : V} {d : PyData} {kvs : List (Key × V)} {ps : List (Key × PyData)} : Dt K M H v d → KD K M H kvs ps → KD K M H ((k, v) :: kvs) ((k, d) :: ps)
theorem KD.of : ∀ {kvs : List (Key × V)} {ps : List (Key × PyData)}, kvs.map (·.1) = ps.map (·.1) → Dts K M H (kvs.map (·.2)) (ps.map (·.2)) → KD K M H kvs ps
 | [], [], _, _ => .nil
 | [], _ :: _, h, _ => by simp at h
 | _ :: _, [], h, _ => by simp at h
 | (k, v) :: kvs, (k', d) :: ps, h, hd => by
  rw [List.map_cons, List.map_cons, List.cons.injEq] at h
  cases (show k = k' from h.1)
  cases hd with
  | cons h1 h2 => exact .cons h1 (KD.of h.2 h2)
theorem KD.keys : ∀ {kvs : List (Key × V)} {ps : List (Key × PyData)}, KD K M H kvs ps → kvs.map (·.1) = ps.map (·.1)
 | _, _, .nil => rfl
 | _, _, .cons _ h => by rw [List.map_cons, List.map_cons, h.keys]
theorem KD.any (k : Key) : ∀ {kvs : List (Key × V)} {ps : List (Key × PyData)}, KD K M H kvs ps → (kvs.any fun kv => decide (kv.1 = k)) = ps.any fun kv => decide (kv.1 = k)
 | _, _, .nil => rfl
 | _, _, .cons _ h => by rw [List.any_cons, List.any_cons, h.any k]
theorem KD.snoc {k : Key} {v : V} {d : PyData} (hd : Dt K M H v d) : ∀ {kvs : List (Key × V)} {ps : List (Key × PyData)}, KD K M H kvs ps → KD K M H (kvs ++ [(k, v)]) (ps ++ [(k, d)])
 | _, _, .nil => .cons hd .nil
 | _, _, .cons h1 h => .cons h1 (h.snoc hd)
theorem KD.FX (k : Key) {v : V} {d : PyData} (hd : Dt K M H v d) : ∀ {kvs : List (Key × V)} {ps : List (Key × PyData)}, KD K M H kvs ps → KD K M H (kvs.map fun kv => if kv.1 = k then (kv.1, v) else kv) (ps.map fun kv => if kv.1 = k then (kv.1, d) else kv)
 | _, _, .nil => .nil
 | _, _, .cons (k := k') h1 h => by
  rw [List.map_cons, List.map_cons]
  by_cases e : k' = k
  ·rw [if_pos e, if_pos e]
   exact .cons hd (h.FX k hd)
  ·rw [if_neg e, if_neg e]
   exact .cons h1 (h.FX k hd)
theorem KD.put (k : Key) {v : V} {d : PyData} (hd : Dt K M H v d) {kvs : List (Key × V)} {ps : List (Key × PyData)} (h : KD K M H kvs ps) : KD K M H (putK kvs k v) (BV ps k d) := by
 unfold putK BV
 rw [h.any k]
 split
 ·exact h.FX k hd
 ·exact h.snoc hd
theorem KD.val (k : Key) : ∀ {kvs : List (Key × V)} {ps : List (Key × PyData)}, KD K M H kvs ps → (V3 kvs k = none ∧ Qv ps k = none) ∨ ∃ v d, V3 kvs k = some v ∧ Qv ps k = some d ∧ Dt K M H v d
 | _, _, .nil => .inl ⟨rfl, rfl⟩
 | _, _, .cons (k := k') (v := v) (d := d) h1 h => by
  unfold V3 Qv
  by_cases e : k' = k
  ·rw [List.find?_cons_of_pos (by simpa using e), List.find?_cons_of_pos (by simpa using e)]
   exact .inr ⟨v, d, rfl, rfl, h1⟩
  ·rw [List.find?_cons_of_neg (by simpa using e), List.find?_cons_of_neg (by simpa using e)]
   exact h.val k
theorem KD.length {kvs : List (Key × V)} {ps : List (Key × PyData)} (h : KD K M H kvs ps) : kvs.length = ps.length := by
 have := congrArg List.length h.keys
 simpa using this
end
section
variable {X : Cx} {o i e value : Expr} {td ti te tv : DTE} {pos pos' : Pos}
noncomputable def Sa : DTE := fun _ M Φ => ∀ p, M p = none → Φ (.own p) (ZE M p (.dkv []))
noncomputable def Zbs (td ti tv : DTE) : DTS := fun D Δ M => tv Δ M fun x M1 => td Δ M1 fun y M2 => ti Δ M2 fun z M3 => onD x fun d => onO y fun l => onS z fun s => Kg (M3 l) fun ps => ps.length < sizeLine ∧ D.nx Δ (ZE M3 l (.dkv (BV ps (.inr s) d)))
theorem KD.some {K : PySem.W.Frag} {M : Mp} {H : Hp} {kvs : List (Key × V)} {ps : List (Key × PyData)} (h : KD K M H kvs ps) (k : Key) : (V3 kvs k).isSome = (Qv ps k).isSome := by
 rcases h.val k with ⟨a, b⟩ | ⟨v, d, a, b, _⟩
 ·rw [a, b]; rfl
 ·rw [a, b]; rfl
noncomputable def ZbA (neg : Bool) : D2 := fun x y M Φ => onS x fun s => onO y fun l => Kg (M l) fun ps => Φ (.dat (.bool ((Qv ps (.inr s)).isSome != neg))) M
noncomputable def S7 (td ti : DTE) : DTE := fun Δ M Φ => td Δ M fun x M1 => ti Δ M1 fun y M2 => onO x fun l => onS y fun s => Kg (M2 l) fun ps => ∃ d, Qv ps (.inr s) = some d ∧ Φ (.dat d) M2
noncomputable def Za0 (td ti : DTE) : DTE := fun Δ M Φ => td Δ M fun x M1 => onO x fun l => Kg (M1 l) fun _ => ti Δ M1 fun y M2 => onS y fun s => Kg (M2 l) fun ps => Φ (.dat ((Qv ps (.inr s)).getD .none)) M2
noncomputable def Zaf : D1 := fun xs M Φ => on1 xs fun x => onO x fun l => Kg (M l) fun ps => Φ (.dat (.int ps.length)) M
noncomputable def pairD (p : Str × PyData) : PyData := .tuple [.str p.1, p.2]
noncomputable def Sw (l : List (Str × PyData)) : List (Key × PyData) := l.foldl (fun m p => BV m (.inr p.1) p.2) []
noncomputable def SE : D1 := fun xs M Φ => on1 xs fun x => onK x M fun ds => ∃ l : List (Str × PyData), ds = l.map pairD ∧ ∀ p, M p = none → Φ (.own p) (ZE M p (.dkv (Sw l)))
end
theorem Fs (td ti : DTE) (Δ : DSt) (M : Mp) (Φ : DK) : S7 td ti Δ M Φ = (td Δ M fun x M1 => ti Δ M1 fun y M2 => onO x fun l => onS y fun s => Kg (M2 l) fun ps => ∃ d, Qv ps (.inr s) = some d ∧ Φ (.dat d) M2) := propext Iff.rfl
end DL
namespace DL
open PySem PySem.Spec PyProof.Rows L2 PySem.W
section
variable {X : Cx}
noncomputable def Zch (te ts : DTE) : DTE := fun Δ M Φ => te Δ M fun x M1 => ts Δ M1 fun y M2 => onK x M2 fun ds => onI y fun i => i = -1 ∧ Φ (.dat (.list ds.reverse)) M2
end
end DL
namespace DL
open PySem PySem.Spec PyProof.Rows L2 PySem.W
section
variable {prog : Program} {w : World} {A : Around} {E : Value → Shared → Prop} {s : Shared}
end
section
variable {prog : Program} {w : World} {A : Around} {E : Value → Shared → Prop} {s : Shared}
end
section
variable {X : Cx} {pins : List (Addr × Obj)} {σ : L2.St} {H : Hp} {s : Shared} {h' : Heap}
end
noncomputable def Ite (K : PySem.W.Frag) (a : Addr) : It :=
 ⟨fun i H => ∃ xs x, SqT K H a xs ∧ xs[i]? = some x, fun i H y H' => ∃ T x, (∀ xs, SqT K H a xs → xs[i]? = some x) ∧ H T = none ∧ y = .ref T ∧ H' = upd H T (.tup [.int i, x]), fun i H => ∃ xs, SqT K H a xs ∧ xs.length ≤ i⟩
section
variable {X : Cx}
noncomputable def ZbX (K : PySem.W.Frag) (ta : TA) : TI := fun σ H R => ta σ H fun vs H1 => ∃ a, vs = [.ref a] ∧ (∃ xs, SqT K H1 a xs) ∧ R (Ite K a) H1
noncomputable def R1 (ds : List PyData) : List PyData := ds.mapIdx fun i d => .tuple [.int i, d]
noncomputable def ZcU (ta : DTA) : J9 := fun Δ M Ψ => ta Δ M fun xs M1 => on1 xs fun x => onT x fun ds => Ψ (R1 ds) M1
end
theorem Oh {P : Program} {w : World} {K : PySem.W.Frag} {mg : Str → Option Value} {base : Heap} {k : Nat} {f : Addr} {fd : FuncData} {ps : List Str} {S : DSp} (h : ∀ xs M Φ, ¬ S xs M Φ) : ZX P w K mg base CX0 k f fd ps (lift K S) :=
 ⟨fun vs H Q E z => by obtain ⟨xs, M, Φ, _, _, z, _⟩ := z; exact absurd z (h _ _ _), fun A outer s H args us vs Q E _ _ _ _ z => by obtain ⟨xs, M, Φ, _, _, z, _⟩ := z; exact absurd z (h _ _ _)⟩
end DL
namespace DL
open PySem PySem.Spec PyProof.Rows L2 PySem.W
section
variable {prog : Program} {w : World} {A : Around} {E : Value → Shared → Prop} {s : Shared}
end
section
variable {X : Cx} {pos : Pos}
noncomputable def Zby (n : Nat) (t : BN) : DTG := fun x Δ M Φ => onL x fun ds => ER n ds fun xs => t xs Δ M Φ
end
end DL
namespace DL
open PySem PySem.Spec PyProof.Rows L2 PySem.W
section
variable {X : Cx}
noncomputable def Tr : D2 := fun x y M Φ => onK x M fun ds => onK y M fun es => es = [] ∧ Φ (.dat (.bool (!ds.isEmpty))) M
noncomputable def R6 : D2 := fun x y M Φ => onK x M fun ds => onK y M fun es => ds.length + es.length ≤ sizeLine ∧ ∀ p, M p = none → Φ (.own p) (ZE M p (.lst (ds ++ es)))
noncomputable def SH : D1 := fun xs M Φ => on1 xs fun x => onI x fun i => Φ (.dat (.bool (i != 0))) M
end
noncomputable def isS (h : PyData) (s : Str) : Bool := match h with | .str t => decide (t = s) | _ => false
end DL
namespace DL
open PySem PySem.Spec PyProof.Rows L2 PySem.W PySem.SeqAt PySem.MeetsSeq
theorem Jf (l : Addr) (es : Array DictEntry) (n : Nat) (dd : Option Addr) (sl : Array (Option Value)) (b : Str) (u : Tok) :
  Meets (Builtin.«dict.__eq__» ⟨[.ref l, .str b u], []⟩) (fun _ R s => s.heap.get? l = some { cls := .type "dict", dict := dd, data := .dict es n, slots := sl } ∧ R (.ok (.ret .notImplemented)) s) :=
 .of_wp fun prog w A R s h => by
  obtain ⟨hp, g, d, tk, os⟩ := s; obtain ⟨hl, h⟩ := h
  have f1 := F.sub_str_dict
  wp_walk using wpAny_loadPart' hl
  exact ⟨_, rfl, h⟩
theorem Jg (b : Str) (u : Tok) (l : Addr) (c : Value) (es : Array DictEntry) (n : Nat) (dd : Option Addr) (sl : Array (Option Value)) :
  Meets (Builtin.«str.__eq__» ⟨[.str b u, .ref l], []⟩) (fun _ R s => s.heap.get? l = some { cls := c, dict := dd, data := .dict es n, slots := sl } ∧ R (.ok (.ret .notImplemented)) s) :=
 .of_wp fun prog w A R s h => by obtain ⟨hp, g, d, tk, os⟩ := s; obtain ⟨hl, h⟩ := h; wp_walk using wpAny_loadPart' hl, wpAny_load hl; exact ⟨_, rfl, h⟩
section
variable {A : Around} {s : Shared}
noncomputable def ZaE (h : Heap) (l : Addr) : Prop := ∃ (o : Obj) (es : Array DictEntry) (n : Nat), h.get? l = some o ∧ o.cls = .type "dict" ∧ o.data = .dict es n
theorem KC {l : Addr} (b : Str) (u : Tok) (hl : ZaE s.heap l) (hu : A.units < cLine) : RcAt A s (.ref l) (.str b u) false := fun prog w E Q h => by
 obtain ⟨⟨cls, dd, data, sl⟩, es, n, ho, hc, hd⟩ := hl
 simp only at hc hd
 subst hc hd
 exact rc_eq_decline_or (k := false) ⟨_, ho, rfl⟩ (typeIs_str s b u) (by decide) F.sub_str_dict F.slot_dict_eq F.slot_str_eq_refl
  (fun _ hq => call_meets F.slot_dict_eq ⟨_, ho, rfl⟩ F.entry_dict_eq (F.args_dict_eq_2 _ _) (Jf l es n dd sl b u) ⟨ho, hq⟩)
  (fun _ hq => call_meets F.slot_str_eq_refl (typeIs_str s b u) F.entry_str_eq (F.args_str_eq_2 _ _) (Jg b u l (.type "dict") es n dd sl) ⟨ho, hq⟩)
  (fun _ hq => wpAny_of_eq (rfl : isSame (.ref l) (.str b u) = pure false) hq) (.inr hu) h
end
section
variable {X : Cx}
inductive Bs (h : Heap) (b : Bool) (t : Str) : Value → Prop
 | non : b = false → Bs h b t .none
 | bl (k : Bool) : b = false → Bs h b t (.bool k)
 | int (i : Int) (u : Tok) : b = false → Bs h b t (.int i u)
 | str (x : Str) (u : Tok) : b = decide (x = t) → Bs h b t (.str x u)
 | tup {a : Addr} {items : Array Value} : h.IsTuple a items → b = false → Bs h b t (.ref a)
 | lst {a : Addr} {items : Array Value} : h.IsList a items → b = false → Bs h b t (.ref a)
 | dic {a : Addr} : ZaE h a → b = false → Bs h b t (.ref a)
theorem Sx {pins : List (Addr × Obj)} {σ : L2.St} {H : Hp} {s : Shared} {M : Mp} {x : V} {v : Value} {d : PyData} (t : Str) (I : L2.Inv X pins σ H s) (r : RelV x v) (h : Dt X.K M H x d) : Bs s.heap (isS d t) t v := by
 cases h with
 | non => cases r; exact .non rfl
 | bl b => cases r; exact .bl b rfl
 | int i => obtain ⟨u, rfl⟩ := r; exact .int i u rfl
 | str z => obtain ⟨u, rfl⟩ := r; exact .str z u rfl
 | tup h1 h2 =>
  cases r
  obtain ⟨its, rv, p, _⟩ := I.tuple h1.sq
  exact .tup (show s.heap.IsTuple _ its.toArray from p) rfl
 | lst h1 h2 =>
  cases r
  obtain ⟨its, rv, p, _⟩ := I.list h1.sq
  exact .lst p.isList rfl
 | dK h0 h1 h2 =>
  cases r
  obtain ⟨_, _, _, _, o, es, n, e, c, d, _⟩ := I.hok _ _ h1
  exact .dic ⟨o, es, n, e, c.1, d⟩ rfl
 | dT h0 h1 h2 =>
  cases r
  obtain ⟨_, _, _, _, o, es, n, e, c, d, _⟩ := I.hok _ _ h1
  exact .dic ⟨o, es, n, e, c.1, d⟩ rfl
 | dX h0 h1 h2 h3 h4 h5 =>
  cases r
  obtain ⟨φ, _⟩ := I.hok _ _ h1
  obtain ⟨o, es, n, u, e, c, d, _⟩ := h3 _ φ
  exact .dic ⟨o, es, n, e, c, d⟩ rfl
theorem Bs.rc {A : Around} {s : Shared} {b : Bool} {t : Str} {v : Value} (u : Tok) (h : Bs s.heap b t v) (hu : A.units < cLine) : RcAt A s v (.str t u) b := by
 cases h with
 | non e => rw [e]; exact RcAt.none_str t u
 | bl k e => rw [e]; exact RcAt.bool_str k t u
 | int i w e => rw [e]; exact RcAt.int_str i w t u
 | str x w e => rw [e, ← Bool.beq_eq_decide_eq]; exact RcAt.str_str x w t u
 | tup p e => rw [e]; exact RcAt.tuple_str t u p hu
 | lst p e => rw [e]; exact RcAt.list_str t u p hu
 | dic p e => rw [e]; exact KC t u p hu
theorem PU (hu : X.A.units < cLine) : OpR X (compareOp .Eq) (fun x y H Q => ∃ M d t, Dt X.K M H x d ∧ y = .str t ∧ Q (.bl (isS d t)) H) := by
 intro pins s σ H x y v u Q I rx ry h
 obtain ⟨M, d, t, h1, rfl, q⟩ := h
 obtain ⟨w, rfl⟩ := ry
 exact (Sx t I rx h1).rc w hu _ _ _ _ ⟨.bl _, H, I, rfl, q⟩
noncomputable def OK : D2 := fun x y M Φ => onD x fun d => onS y fun t => Φ (.dat (.bool (isS d t))) M
theorem MO {k : Nat} (hr : J0 k X.A) : OpD X (compareOp .Eq) OK :=
 ⟨_, PU (by have := hr.un; omega), fun v u H x y M Φ Q r rv ru h k => by
  obtain ⟨d, e1, h⟩ := Qi h
  obtain ⟨t, e2, q⟩ := WS h
  subst e1 e2
  exact ⟨M, d, t, rv, ru.str, k.dat r Step.refl (Dt.bl _) q⟩⟩
noncomputable def SW : D2 := fun x y M Φ => onD x fun d => onT y fun ds => ∃ ts : List Str, ds = ts.map PyData.str ∧ Φ (.dat (.bool (ts.any (isS d)))) M
theorem Fz (x y : DV) (M : Mp) (Φ : DK) : OK x y M Φ = (onD x fun d => onS y fun t => Φ (.dat (.bool (isS d t))) M) := propext Iff.rfl
theorem LZ (x y : DV) (M : Mp) (Φ : DK) : SW x y M Φ = (onD x fun d => onT y fun ds => ∃ ts : List Str, ds = ts.map PyData.str ∧ Φ (.dat (.bool (ts.any (isS d)))) M) := propext Iff.rfl
end
end DL
namespace DL
open PySem PySem.Spec PyProof.Rows L2 PySem.W
section
variable {X : Cx} {pos : Pos}
noncomputable def MA (tk0 tk1 tk2 tk3 tk4 tk5 tv0 tv1 tv2 tv3 tv4 tv5 : DTE) : DTE := fun Δ M Φ => tk0 Δ M fun x0 M1 => tv0 Δ M1 fun y0 M2 => tk1 Δ M2 fun x1 M3 => tv1 Δ M3 fun y1 M4 => tk2 Δ M4 fun x2 M5 => tv2 Δ M5 fun y2 M6 => tk3 Δ M6 fun x3 M7 => tv3 Δ M7 fun y3 M8 => tk4 Δ M8 fun x4 M9 => tv4 Δ M9 fun y4 M10 => tk5 Δ M10 fun x5 M11 => tv5 Δ M11 fun y5 M12 => onS x0 fun s0 => onD y0 fun d0 => onS x1 fun s1 => onD y1 fun d1 => onS x2 fun s2 => onD y2 fun d2 => onS x3 fun s3 => onD y3 fun d3 => onS x4 fun s4 => onD y4 fun d4 => onS x5 fun s5 => onD y5 fun d5 => ([s0, s1, s2, s3, s4, s5] : List Str).Nodup ∧ ∀ p, M12 p = none → Φ (.own p) (ZE M12 p (.dkv [(Sum.inr s0, d0), (Sum.inr s1, d1), (Sum.inr s2, d2), (Sum.inr s3, d3), (Sum.inr s4, d4), (Sum.inr s5, d5)]))
theorem Cs (tk0 tk1 tk2 tk3 tk4 tk5 tv0 tv1 tv2 tv3 tv4 tv5 : DTE) (Δ : DSt) (M : Mp) (Φ : DK) : MA tk0 tk1 tk2 tk3 tk4 tk5 tv0 tv1 tv2 tv3 tv4 tv5 Δ M Φ = (tk0 Δ M fun x0 M1 => tv0 Δ M1 fun y0 M2 => tk1 Δ M2 fun x1 M3 => tv1 Δ M3 fun y1 M4 => tk2 Δ M4 fun x2 M5 => tv2 Δ M5 fun y2 M6 => tk3 Δ M6 fun x3 M7 => tv3 Δ M7 fun y3 M8 => tk4 Δ M8 fun x4 M9 => tv4 Δ M9 fun y4 M10 => tk5 Δ M10 fun x5 M11 => tv5 Δ M11 fun y5 M12 => onS x0 fun s0 => onD y0 fun d0 => onS x1 fun s1 => onD y1 fun d1 => onS x2 fun s2 => onD y2 fun d2 => onS x3 fun s3 => onD y3 fun d3 => onS x4 fun s4 => onD y4 fun d4 => onS x5 fun s5 => onD y5 fun d5 => ([s0, s1, s2, s3, s4, s5] : List Str).Nodup ∧ ∀ p, M12 p = none → Φ (.own p) (ZE M12 p (.dkv [(Sum.inr s0, d0), (Sum.inr s1, d1), (Sum.inr s2, d2), (Sum.inr s3, d3), (Sum.inr s4, d4), (Sum.inr s5, d5)]))) := propext Iff.rfl
noncomputable def RX : D2 := fun x y M Φ => onO x fun l => onI y fun i => Jw (M l) fun ds => (0 ≤ i ∧ i < 2 ^ 63 ∧ ds.length * i.toNat ≤ sizeLine) ∧ Φ (.dat (.list (List.replicate i.toNat ds).flatten)) M
theorem HR (x y : DV) (M : Mp) (Φ : DK) : RX x y M Φ = (onO x fun l => onI y fun i => Jw (M l) fun ds => (0 ≤ i ∧ i < 2 ^ 63 ∧ ds.length * i.toNat ≤ sizeLine) ∧ Φ (.dat (.list (List.replicate i.toNat ds).flatten)) M) := propext Iff.rfl
end
end DL
namespace DL
open PySem PySem.Spec PyProof.Rows L2 PySem.W PySem.SeqAt PySem.MeetsSeq
section
variable {X : Cx}
noncomputable def Nu : D2 := fun x y M Φ => onT x fun ds => onI y fun k => (2 ≤ k ∧ k ≤ 1000 ∧ 1 ≤ ds.length ∧ ds.length ≤ 1000) ∧ Φ (.dat (.tuple (List.replicate k.toNat ds).flatten)) M
theorem Dz (x y : DV) (M : Mp) (Φ : DK) : Nu x y M Φ = (onT x fun ds => onI y fun k => (2 ≤ k ∧ k ≤ 1000 ∧ 1 ≤ ds.length ∧ ds.length ≤ 1000) ∧ Φ (.dat (.tuple (List.replicate k.toNat ds).flatten)) M) := propext Iff.rfl
theorem DR : OpR X (binaryOp .Add) (fun x y H Q => ∃ a b xs ys, x = .ref a ∧ y = .ref b ∧ SqT X.K H a xs ∧ SqT X.K H b ys ∧ xs.length + ys.length ≤ sizeLine ∧
  (xs = [] → Q (.ref b) H) ∧ (xs ≠ [] → ys = [] → Q (.ref a) H) ∧ (xs ≠ [] → ys ≠ [] → ∀ p, H p = none → Q (.ref p) (upd H p (.tup (xs ++ ys))))) := by
 intro pins s σ H x y v u Q I rx ry h
 obtain ⟨a, b, xs, ys, rfl, rfl, ha, hb, hz, q0, q1, q2⟩ := h
 by_cases hx : xs = []
 ·cases rx
  cases ry
  obtain ⟨its, r1, p1, _⟩ := I.tuple ha
  obtain ⟨its2, r2, p2, _⟩ := I.tuple hb
  obtain ⟨⟨cls, dd, data, sl⟩, ho, hc, n, hd⟩ := id p1
  obtain ⟨⟨cls2, dd2, data2, sl2⟩, ho2, hc2, n2, hd2⟩ := id p2
  simp only at hc hd hc2 hd2
  subst hc hd hc2 hd2
  have he : its = [] := r1.YW.mpr hx
  exact concat_meets ⟨_, ho, rfl⟩ ⟨_, ho2, rfl⟩ noFill_tuple_add seq_tuple_add PySem.F.slot_tuple_add PySem.F.entry_tuple_add (PySem.F.args_tuple_add_2 _ _)
   (tuple_addW0 a b its.toArray its2.toArray n n2 dd dd2 sl sl2 (by rw [he]; rfl)) ⟨ho, ho2, ⟨.ref b, H, I, rfl, q0 hx⟩⟩
 ·exact LK pins s σ H _ _ v u Q I rx ry ⟨a, b, xs, ys, rfl, rfl, ha, hb, hx, hz, q1 hx, q2 hx⟩
noncomputable def GA : D2 := fun x y M Φ => onT x fun ds => onT y fun es => ds.length + es.length ≤ sizeLine ∧ Φ (.dat (.tuple (ds ++ es))) M
theorem DQ : OpD X (binaryOp .Add) GA := by
 refine ⟨_, DR, fun v u H x y M Φ Q r rv ru h k => ?_⟩
 replace h := VN h
 obtain ⟨ds, rfl, h⟩ := h
 replace h := VN h
 obtain ⟨es, rfl, hz, q⟩ := h
 obtain ⟨a, xs, rfl, h1, h2⟩ := id rv.tup
 obtain ⟨b, ys, rfl, h3, h4⟩ := id ru.tup
 refine ⟨a, b, xs, ys, rfl, rfl, h1.sq, h3.sq, by rw [h2.length, h4.length]; exact hz, fun e => ?_, fun e e2 => ?_, fun e e2 p hp => ?_⟩
 ·subst e
  cases h2
  exact k _ _ _ _ r Step.refl ru q
 ·subst e2
  cases h4
  rw [List.append_nil] at q
  exact k _ _ _ _ r Step.refl rv q
 ·exact k.dat (r.new hp) (Step.new hp) (Dt.Yb r hp (h2.append h4)) q
theorem GH (x y : DV) (M : Mp) (Φ : DK) : GA x y M Φ = (onT x fun ds => onT y fun es => ds.length + es.length ≤ sizeLine ∧ Φ (.dat (.tuple (ds ++ es))) M) := propext Iff.rfl
end
end DL
namespace DL
open PySem PySem.Spec PyProof.Rows L2 PySem.W
noncomputable def Itz (K : PySem.W.Frag) (a b : Addr) : It :=
  ⟨fun i H => ∃ xs ys x y, SqL K H a xs ∧ xs[i]? = some x ∧ SqL K H b ys ∧ ys[i]? = some y,
   fun i H v H' => ∃ T x y, (∀ xs, SqL K H a xs → xs[i]? = some x) ∧ (∀ ys, SqL K H b ys → ys[i]? = some y) ∧ H T = none ∧ v = .ref T ∧ H' = upd H T (.tup [x, y]),
   fun i H => ∃ xs ys, SqL K H a xs ∧ SqL K H b ys ∧ (xs.length ≤ i ∨ ys.length ≤ i)⟩
noncomputable def LB (a b : Addr) (n : Nat) (i : Nat) (h : Heap) : Prop :=
 IsZip h (n + 4) (n + 2) (n + 3) .none ∧ IsPair h (n + 2) (.ref n) (.ref (n + 1)) ∧ (∃ u v, IsPair h (n + 3) u v) ∧ h.IsListIter n a i ∧ h.IsListIter (n + 1) b i
theorem LB.keep {a b : Addr} {n : Nat} {i : Nat} {h h' : Heap} (st : LB a b n i h) (k : ∀ c ∈ [n + 4, n + 2, n + 3, n, n + 1], ∀ o, h.get? c = some o → h'.get? c = some o) : LB a b n i h' := by
 obtain ⟨hz, h2, ⟨u, v, h3⟩, h0, h1⟩ := st
 exact ⟨k _ (by simp) _ hz, k _ (by simp) _ h2, ⟨u, v, k _ (by simp) _ h3⟩, h0.at fun o e => k _ (by simp) o e, h1.at fun o e => k _ (by simp) o e⟩
section
variable {X : Cx}
noncomputable def Zct (K : PySem.W.Frag) (ta : TA) : TI := fun σ H R => ta σ H fun vs H1 => ∃ a b, vs = [.ref a, .ref b] ∧ (∃ xs, SqL K H1 a xs) ∧ (∃ ys, SqL K H1 b ys) ∧ R (Itz K a b) H1
noncomputable def Tt (as bs : List PyData) : List PyData := List.zipWith (fun a b => .tuple [a, b]) as bs
noncomputable def Zcn (ta : DTA) : J9 := fun Δ M Ψ => ta Δ M fun xs M1 => on2 xs fun x y => onL x fun as => onL y fun bs => Ψ (Tt as bs) M1
end
end DL
namespace DL
open PySem PySem.Spec PyProof.Rows L2 PySem.W
section
variable {X : Cx} {pos : Pos}
noncomputable abbrev DTP := DSt → Mp → (List (DV × DV) → Mp → Prop) → Prop
noncomputable def DPs (X : Cx) (pos : Pos) (keys : List (Option Expr)) (values : List Expr) (τ : DTP) : Prop :=
 ∃ trs, PPs X pos keys values trs ∧ trs.length = keys.length ∧ ∀ σ H Δ M Φ (Q : List (V × V) → Hp → Prop), Zv X.K M H → Qu X.K M H σ Δ → τ Δ M Φ →
  (∀ ps H' qs M', Zv X.K M' H' → Step M H M' H' → Paired (fun (p : V × V) (q : DV × DV) => ZU X.K M' H' p.1 q.1 ∧ ZU X.K M' H' p.2 q.2) ps qs → Φ qs M' → Q ps H') → Wx trs σ H Q
noncomputable def ZbU : DTP := fun _ M Φ => Φ [] M
noncomputable def Zak (tk tv : DTE) (t : DTP) : DTP := fun Δ M Φ => tk Δ M fun x M1 => tv Δ M1 fun y M2 => t Δ M2 fun qs M3 => Φ ((x, y) :: qs) M3
noncomputable def P1 : List (DV × DV) → (List (Key × PyData) → Prop) → Prop
 | [], P => P []
 | (x, y) :: r, P => VS x fun k => onD y fun d => P1 r fun l => P ((k, d) :: l)
noncomputable def Zbj (t : DTP) : DTE := fun Δ M Φ => ∀ p, M p = none → t Δ (ZE M p (.dkv [])) fun qs M2 => P1 qs fun l => M2 p = some (.dkv []) ∧ ((l.map (·.1)).Nodup ∧ l.length ≤ 15) ∧ Φ (.own p) (ZE M2 p (.dkv l))
noncomputable def Za3 (td ti tx : DTE) : DTE := fun Δ M Φ => td Δ M fun x M1 => onO x fun l => Kg (M1 l) fun _ => ti Δ M1 fun y M2 => tx Δ M2 fun z M3 => onS y fun s => onD z fun d => Kg (M3 l) fun ps => Φ (.dat ((Qv ps (.inr s)).getD d)) M3
end
end DL
namespace DL
open PySem PySem.Spec PyProof.Rows L2 PySem.W
section
variable {X : Cx} {pins : List (Addr × Obj)} {σ : L2.St} {H : Hp} {s : Shared} {M : Mp}
end
section
variable {X : Cx}
noncomputable def Sv : D1 := fun xs M Φ => on1 xs fun x => onT x fun ds => ((∀ d ∈ ds, Shw d) ∧ (PyData.tuple ds).depth ≤ 64 ∧ (PyData.tuple ds).shown.length ≤ sizeLine) ∧ Φ (.dat (.str (PyData.tuple ds).shown)) M
end
end DL
namespace DL
open PySem PySem.Spec PyProof.Rows L2
section
variable {X : Cx}
noncomputable def ZcA (τ : DTE) : DTT := fun Δ M Φ => τ Δ M fun x M1 => onQ x M1 fun ds => Φ (!ds.isEmpty) M1
end
end DL
namespace DL
open PySem PySem.Spec PyProof.Rows L2 PySem.W
structure Gives (it l : Addr) (xs : Array Value) (st : Nat → Heap → Prop) : Prop where
 frame : ∀ {i : Nat} {h h' : Heap}, st i h → (∀ b, b = it ∨ b = l → ∀ o, h.get? b = some o → h'.get? b = some o) → st i h'
 live : ∀ {i : Nat} {h : Heap}, st i h → ∃ o, h.get? it = some o
 item : ∀ {prog : Program} {w : World} {A : Around} {E : Value → Shared → Prop} {s : Shared} {Q : Value → Shared → Prop} {i : Nat} {x : Value}, st i s.heap → xs[i]? = some x →
  (∀ h', st (i + 1) h' → Heap.SameBut it s.heap h' → Q x { s with heap := h' }) → wpAny (model prog w) A (Builtin.SmallTypes.nextOf (.ref it)) Q E s
 done : ∀ {prog : Program} {w : World} {A : Around} {E : Value → Shared → Prop} {s : Shared} {Q : Value → Shared → Prop} {i : Nat}, A.handled = none → st i s.heap → xs[i]? = none →
  (∀ h' e, Heap.ExtBut it s.heap h' → (∃ o, h'.get? e = some o ∧ o.cls = .type "StopIteration") → E (.ref e) { s with heap := h' }) → wpAny (model prog w) A (Builtin.SmallTypes.nextOf (.ref it)) Q E s
noncomputable def ZcV (a b c d : Addr) (h h' : Heap) : Prop := ∀ x o, x ≠ a → x ≠ b → x ≠ c → x ≠ d → h.get? x = some o → h'.get? x = some o
section
variable {prog : Program} {w : World} {A : Around} {E : Value → Shared → Prop} {s : Shared} {z TI TO p q l m : Addr} {xs ys : Array Value} {f g : Nat → Heap → Prop} {i j : Nat}
end
noncomputable abbrev zt1 (h : Heap) (l : Addr) : Heap := h.push { cls := .type "tuple_iterator", data := .fields #[.ref l, .int 0 0] }
noncomputable abbrev zt2 (h : Heap) (l m : Addr) : Heap := (zt1 h l).push { cls := .type "list_iterator", data := .fields #[.ref m, .int 0 0] }
noncomputable abbrev zt3 (h : Heap) (l m : Addr) : Heap := (zt2 h l m).push { cls := .type "tuple", data := .seq #[.ref h.objs.size, .ref (zt1 h l).objs.size] }
noncomputable abbrev zt4 (h : Heap) (l m : Addr) : Heap := (zt3 h l m).push { cls := .type "tuple", data := .seq #[.none, .none] }
noncomputable abbrev zt5 (h : Heap) (l m : Addr) : Heap := (zt4 h l m).push { cls := .type "zip", data := .fields #[.none, .bool false, .bool false, .ref (zt2 h l m).objs.size, .ref (zt3 h l m).objs.size] }
section
variable {prog : Program} {w : World} {A : Around} {E : Value → Shared → Prop} {s : Shared}
end
noncomputable def Zbq (K : PySem.W.Frag) (a b : Addr) : It :=
  ⟨fun i H => ∃ xs ys x y, SqT K H a xs ∧ xs[i]? = some x ∧ SqL K H b ys ∧ ys[i]? = some y,
   fun i H v H' => ∃ T x y, (∀ xs, SqT K H a xs → xs[i]? = some x) ∧ (∀ ys, SqL K H b ys → ys[i]? = some y) ∧ H T = none ∧ v = .ref T ∧ H' = upd H T (.tup [x, y]),
   fun i H => ∃ xs ys, SqT K H a xs ∧ SqL K H b ys ∧ (xs.length ≤ i ∨ ys.length ≤ i)⟩
noncomputable def ZcY (a b : Addr) (n : Nat) (i : Nat) (h : Heap) : Prop :=
 IsZip h (n + 4) (n + 2) (n + 3) .none ∧ IsPair h (n + 2) (.ref n) (.ref (n + 1)) ∧ (∃ u v, IsPair h (n + 3) u v) ∧ h.IsTupleIter n a i ∧ h.IsListIter (n + 1) b i
section
variable {X : Cx}
noncomputable def Zb1 (K : PySem.W.Frag) (ta : TA) : TI := fun σ H R => ta σ H fun vs H1 => ∃ a b, vs = [.ref a, .ref b] ∧ (∃ xs, SqT K H1 a xs) ∧ (∃ ys, SqL K H1 b ys) ∧ R (Zbq K a b) H1
noncomputable def Zcf (ta : DTA) : J9 := fun Δ M Ψ => ta Δ M fun xs M1 => on2 xs fun x y => onT x fun as => onL y fun bs => Ψ (Tt as bs) M1
end
end DL
namespace DL
open PySem PySem.Spec PyProof.Rows L2 PySem.W
section
variable {X : Cx} {tg iter : Expr} {g : DTG} {tb : DTS} {body : List Stmt} {pos : Pos}
noncomputable def Zb6 (src : J9) (g : DTG) (tb : DTS) : DTS := fun D Δ M => src Δ M fun ds M1 => GV g tb D ds Δ M1
noncomputable def Zap (K : PySem.W.Frag) : V → List V → Hp → VK → Prop := fun x vs H Q => ∃ (l : Addr) (ss : List Str) (t : Str), x = .ref l ∧ vs = [V.str t] ∧ SqL K H l (List.map V.str ss) ∧ t ∈ ss ∧ Q (.int (ss.idxOf t : Nat)) H
noncomputable def UP (ds : List PyData) (P : List Str → Prop) : Prop := ∃ ss, ds = ss.map PyData.str ∧ P ss
noncomputable def ZcO (to te : DTE) : DTE := fun Δ M Φ => to Δ M fun x M1 => onL x fun ds => te Δ M1 fun y M2 => onS y fun t => UP ds fun ss => t ∈ ss ∧ Φ (.dat (.int (ss.idxOf t : Nat))) M2
noncomputable def EX (x : DV) (P : List PyData → Prop) : Prop := match x with | .dat (.tuple ds) => P ds | .dat (.list ds) => P ds | _ => False
theorem DC (ds : List PyData) (P : List PyData → Prop) : EX (.dat (.tuple ds)) P = P ds := propext Iff.rfl
theorem Dx (ds : List PyData) (P : List PyData → Prop) : EX (.dat (.list ds)) P = P ds := propext Iff.rfl
noncomputable def iTL (K : PySem.W.Frag) (tl : TE) : TI := fun σ H R => tl σ H fun x H1 => ∃ a, x = .ref a ∧ (((∃ xs, SqL K H1 a xs) ∧ R (Itl K a) H1) ∨ (∃ xs, SqT K H1 a xs) ∧ R (Itt K a) H1)
theorem Pf {tl : TE} (hl : PE X iter tl) : PI X tg iter (iTL X.K tl) := by
 intro pins s σ H R I h
 refine thn (hl pins s σ H _ I h) fun v s1 ⟨x, H1, I1, r1, q1⟩ => ?_
 obtain ⟨a, e, q⟩ := q1
 subst e
 cases r1
 have fp : ∀ b ∈ [s1.heap.objs.size], UG X pins H1 b := fun b hb => by
  rw [List.mem_singleton.mp hb]
  exact I1.Mz (Nat.le_refl _) (I1.hok.fresh (Nat.le_refl _))
 have IP : ∀ o : Obj, L2.Inv X pins σ H1 { s1 with heap := s1.heap.push o, toks := s1.toks } := fun o => I1.kept (t' := s1.toks) fun b o e => Heap.get?_push_of_some _ e
 rcases q with ⟨⟨xs, hq⟩, q⟩ | ⟨⟨xs, hq⟩, q⟩
 ·obtain ⟨its, rv, p, hz⟩ := I1.list hq
  exact wpAny_pyIter_list p.isList ⟨s1.heap.objs.size, _, _, _, H1, rfl, IP _, XO a _, ⟨_, Heap.get?_push_size _ rfl, rfl, rfl⟩, fp, q⟩
 ·obtain ⟨its, rv, p, hz⟩ := I1.tuple hq
  exact wpAny_pyIter_tuple (show s1.heap.IsTuple a its.toArray from p) ⟨s1.heap.objs.size, _, _, _, H1, rfl, IP _, Yc a _, ⟨_, Heap.get?_push_size _ rfl, rfl, rfl⟩, fp, q⟩
noncomputable def OR (te : DTE) : J9 := fun Δ M Ψ => te Δ M fun x M1 => EX x fun ds => Ψ ds M1
theorem FK (te : DTE) (Δ : DSt) (M : Mp) (Ψ : List PyData → Mp → Prop) : OR te Δ M Ψ = (te Δ M fun x M1 => EX x fun ds => Ψ ds M1) := propext Iff.rfl
theorem Mh {te : DTE} (he : DE X iter te) : DI X tg iter (OR te) := by
 obtain ⟨t, p, q⟩ := he
 refine ⟨_, Pf p, fun σ H Δ M Ψ R dr er h k => ?_⟩
 refine q σ H Δ M _ _ dr er h fun v H1 x M1 r1 st rv hx => ?_
 have two : ∃ ds, (x = .dat (.tuple ds) ∨ x = .dat (.list ds)) ∧ Ψ ds M1 := by
  unfold EX at hx
  split at hx
  ·exact ⟨_, .inl rfl, hx⟩
  ·exact ⟨_, .inr rfl, hx⟩
  ·exact hx.elim
 obtain ⟨ds, rfl | rfl, hΨ⟩ := two
 ·obtain ⟨a, xs, rfl, h1, h2⟩ := rv.tup
  refine ⟨a, rfl, .inr ⟨⟨xs, h1.sq⟩, k _ H1 M1 ds r1 st (fun M2 H2 st2 i => ⟨fun hi => ?_, fun hi => ⟨xs, (h1.step st2).sq, by rw [h2.length]; exact hi⟩⟩) hΨ⟩⟩
  have hx : i < xs.length := by rw [h2.length]; exact hi
  refine ⟨⟨xs, xs[i], (h1.step st2).sq, by simp [hx]⟩, fun x H' ⟨e, y⟩ => ?_⟩
  obtain ⟨d, hd, hy⟩ := (h2.step st2).L5 (y xs (h1.step st2).sq)
  subst e
  exact fun r => ⟨r, Step.refl, d, hd, hy⟩
 ·obtain ⟨a, xs, rfl, h1, h2⟩ := rv.lst
  refine ⟨a, rfl, .inl ⟨⟨xs, h1.sq⟩, k _ H1 M1 ds r1 st (fun M2 H2 st2 i => ⟨fun hi => ?_, fun hi => ⟨xs, (h1.step st2).sq, by rw [h2.length]; exact hi⟩⟩) hΨ⟩⟩
  have hx : i < xs.length := by rw [h2.length]; exact hi
  refine ⟨⟨xs, xs[i], (h1.step st2).sq, by simp [hx]⟩, fun x H' ⟨e, y⟩ => ?_⟩
  obtain ⟨d, hd, hy⟩ := (h2.step st2).L5 (y xs (h1.step st2).sq)
  subst e
  exact fun r => ⟨r, Step.refl, d, hd, hy⟩
end
end DL
namespace DL
open PySem PySem.Spec PyProof.Rows L2
noncomputable def RT (X : Cx) (scope : Scope) (k : Str) (C : Addr) (N : List Str) (ex : List Addr) (s : Shared) (H : Hp) : Cx :=
 { X with N := N, s₀ := s, H₀ := H, env := compEnvC scope ((k, C + 1) :: UU X.env scope.names []) C X.env, outer := X.stack, ex := ex, fn := fun x => x == k, pn := [], xe := fun _ _ => False }
structure S9 (X : Cx) (scope : Scope) (k : Str) (N : List Str) (ix : List (Option Nat)) : Prop where
 kind : scope.kind = .function
 cf : ∀ n cl, cellsFrom n scope.names cl = (k, n) :: cl
 pc : ∀ h, pushCells h scope.names = h.push { cls := .type "cell", data := .cell none }
 cellK : ∀ y ∈ scope.names, y.2 = .cell → y.1 = k
 nk : ∀ y ∈ scope.names, y.2 = .free → y.1 ≠ k
 names : ∀ y ∈ scope.names, y.2 = .local → scope.names.lookup y.1 = some .local
 free : ∀ y ∈ scope.names, y.2 = .free → X.env.kindOf y.1 = some .cell
 len : N.length = ix.length
 cap : ∀ (j : Nat) (x : Str) (i : Nat), N[j]? = some x → ix[j]? = some (some i) → X.N[i]? = some x ∧ (x, NameKind.free) ∈ scope.names ∧ (relabel scope X.env).names.lookup x = some .cell
section
variable {X : Cx} {pins : List (Addr × Obj)} {σ : L2.St} {H2 : Hp} {s2 : Shared} {scope : Scope} {k : Str} {N : List Str} {ix : List (Option Nat)} {C : Addr} {fp : List Addr}
end
section
variable {X : Cx}
set_option maxHeartbeats 2000000 in
end
end DL
namespace DL
open PySem PySem.Spec PyProof.Rows L2 PySem.W
noncomputable def ZaB (o : Option OO) (P : List (Key × DV) → Prop) : Prop := match o with | some (.dko ps) => P ps | _ => False
noncomputable def Th (ps : List (Key × DV)) (k : Key) : Option DV := (ps.find? fun p => decide (p.1 = k)).map (·.2)
noncomputable def Sj (ps : List (Key × DV)) (k : Key) (x : DV) : List (Key × DV) := if (ps.any fun p => decide (p.1 = k)) = true then ps.map (fun p => if p.1 = k then (p.1, x) else p) else ps ++ [(k, x)]
section
variable {K : PySem.W.Frag} {M : Mp} {H : Hp}
noncomputable abbrev KO (K : PySem.W.Frag) (M : Mp) (H : Hp) : List (Key × V) → List (Key × DV) → Prop := Paired fun (p : Key × V) (q : Key × DV) => p.1 = q.1 ∧ VR0 K M H p.2 q.2
theorem VR0.rel {v : V} {x : DV} (h : VR0 K M H v x) : ZU K M H v x := by
 cases x with
 | dat d => exact h
 | own b => exact h
 | ty n => exact h.elim
 | mix xs => exact h
theorem ZU.zero {v : V} {x : DV} (h : ZU K M H v x) (n : ∀ t, x ≠ .ty t) : VR0 K M H v x := by
 cases x with
 | dat d => exact h
 | own b => exact h
 | ty t => exact absurd rfl (n t)
 | mix xs => exact h
end
section
variable {X : Cx} {o i value : Expr} {td ti tv : DTE} {pos pos' : Pos}
noncomputable def Ut (x : DV) (P : Prop) : Prop := match x with | .ty _ => False | _ => P
theorem Cm (d : PyData) (P : Prop) : Ut (.dat d) P = P := propext Iff.rfl
theorem Dq (a : Addr) (P : Prop) : Ut (.own a) P = P := propext Iff.rfl
theorem GU {x : DV} {P : Prop} (h : Ut x P) : (∀ t, x ≠ .ty t) ∧ P := by
 cases x with
 | dat d => exact ⟨fun t e => (by cases e), h⟩
 | own a => exact ⟨fun t e => (by cases e), h⟩
 | ty t => exact h.elim
 | mix xs => exact ⟨fun t e => (by cases e), h⟩
noncomputable def ZbW (td ti tv : DTE) : DTS := fun D Δ M => tv Δ M fun x M1 => td Δ M1 fun y M2 => ti Δ M2 fun z M3 => Ut x (onO y fun l => onS z fun s => ZaB (M3 l) fun ps => ps.length < sizeLine ∧ D.nx Δ (ZE M3 l (.dko (Sj ps (.inr s) x))))
noncomputable def ZbI (td ti : DTE) : DTE := fun Δ M Φ => td Δ M fun x M1 => ti Δ M1 fun y M2 => onO x fun l => onS y fun s => ZaB (M2 l) fun ps => ∃ z, Th ps (.inr s) = some z ∧ Φ z M2
noncomputable def Ob : List (DV × DV) → (List (Key × DV) → Prop) → Prop
 | [], P => P []
 | (x, y) :: r, P => VS x fun k => Ut y (Ob r fun l => P ((k, y) :: l))
noncomputable def Zaz (t : DTP) : DTE := fun Δ M Φ => ∀ p, M p = none → t Δ (ZE M p (.dko [])) fun qs M2 => Ob qs fun l => M2 p = some (.dko []) ∧ ((l.map (·.1)).Nodup ∧ l.length ≤ 15) ∧ Φ (.own p) (ZE M2 p (.dko l))
end
end DL
namespace DL
open PySem PySem.Spec PyProof.Rows L2 PySem.W
section
open PySem.SeqAt
open PySem.AutoSeq1 (wpAny_loadPart')
open PySem.MeetsSeq PySem.MeetsSeq2 PySem.MeetsSeq3
variable {prog : Program} {w : World} {A : Around} {E : Value → Shared → Prop} {s : Shared}
end
noncomputable def Rr : PyData → Option (Int × Str)
 | .tuple [.int i, .tuple (.str s :: _)] => some (i, s)
 | _ => none
noncomputable def Zbz (ks : List (Int × Str)) (i j : Nat) : Bool := decide ((ks.getD i (0, Str.empty)).1 < (ks.getD j (0, Str.empty)).1 ∨ (ks.getD i (0, Str.empty)).1 = (ks.getD j (0, Str.empty)).1 ∧ (ks.getD i (0, Str.empty)).2.cps.toList < (ks.getD j (0, Str.empty)).2.cps.toList)
section
variable {X : Cx}
noncomputable def ZaU (K : PySem.W.Frag) : List V → Hp → VK → Prop := fun xs H Q => ∃ (p : Addr) (M : Mp) (vs : List V) (ds : List PyData) (ks : List (Int × Str)), xs = [.ref p] ∧ SqL K H p vs ∧ Dts K M H vs ds ∧ ds.map Rr = ks.map some ∧ ks.Nodup ∧ ds.length < 64 ∧
 ∀ q, Pm ds.length q → Up (Zbz ks) q ds.length → ∀ l, H l = none → Q (.ref l) (upd H l (.lst (q.toList.map fun i => vs.getD i .non)))
noncomputable def ZbE (a b : PyData) : Prop := ∀ s t, Rr a = some s → Rr b = some t → ¬ (t.1 < s.1 ∨ t.1 = s.1 ∧ t.2.cps.toList < s.2.cps.toList)
noncomputable def SG : D1 := fun xs M Φ => on1 xs fun x => onK x M fun ds => ∃ ks : List (Int × Str), ds.map Rr = ks.map some ∧ ks.Nodup ∧ ds.length < 64 ∧ ∀ ds' : List PyData, ds'.Perm ds → ds'.Pairwise ZbE → Φ (.dat (.list ds')) M
noncomputable def RK : D1 := fun xs M Φ => on1 xs fun x => onK x M fun ds => UP ds fun ss => ss.length < 64 ∧ ∀ ss' : List Str, ss'.Perm ss → sortedS ss' = true → Φ (.dat (.list (ss'.map PyData.str))) M
end
end DL
namespace DL
open PySem PySem.Spec PyProof.Rows L2 PySem.W
theorem Step.all {M : Mp} {H : Hp} : Step M H (fun _ => none) H := ⟨fun _ _ _ h => h, fun _ _ _ _ => rfl⟩
noncomputable def Wn (x : DV) (M : Mp) (P : PyData → Prop) : Prop := match x with | .dat d => P d | .own q => Jw (M q) (fun ds => P (.list ds)) | _ => False
theorem CY (d : PyData) (M : Mp) (P : PyData → Prop) : Wn (.dat d) M P = P d := propext Iff.rfl
theorem B8 (q : Addr) (M : Mp) (P : PyData → Prop) : Wn (.own q) M P = Jw (M q) (fun ds => P (.list ds)) := propext Iff.rfl
section
variable {X : Cx}
theorem YR {M : Mp} {H : Hp} {v : V} {x : DV} {P : PyData → Prop} (h : Wn x M P) (r : Zv X.K M H) (rv : ZU X.K M H v x) : ∃ d, Dt X.K (fun _ => none) H v d ∧ P d := by
 cases x with
 | dat d => exact ⟨d, Dt.step Step.all rv, h⟩
 | own q =>
  have h : Jw (M q) (fun ds => P (.list ds)) := h
  replace h := JT h
  obtain ⟨ds, hm, h⟩ := h
  cases (show v = .ref q from rv)
  obtain ⟨vs, g1, g2⟩ := r.ls q ds hm
  exact ⟨.list ds, .lst (.inl ⟨rfl, .inl g1⟩) (g2.step Step.all), h⟩
 | ty t => exact h.elim
 | mix xs => exact h.elim
noncomputable def MP : D2 := fun x y M Φ => Wn x M fun d => Wn y M fun e => Ew d e = true ∧ Φ (.dat (.bool (PyData.eqv d e))) M
theorem Fq (x y : DV) (M : Mp) (Φ : DK) : MP x y M Φ = (Wn x M fun d => Wn y M fun e => Ew d e = true ∧ Φ (.dat (.bool (PyData.eqv d e))) M) := propext Iff.rfl
noncomputable def ZbT : D2 := fun x y M Φ => Wn x M fun d => Wn y M fun e => Ew d e = true ∧ Φ (.dat (.bool (!PyData.eqv d e))) M
theorem FW {d e : PyData} (h : Ew d e = true) : d.canLay0 = true ∧ e.canLay0 = true ∧ min d.depth e.depth ≤ 64 := by
 unfold Ew at h
 simp only [Bool.and_eq_true] at h
 exact ⟨h.1.1, h.1.2, Nat.le_of_ble_eq_true h.2⟩
theorem Mw {k : Nat} (hr : J0 k X.A) : OpD X (compareOp .Eq) MP :=
 ⟨_, EG hr.units, fun v u H x y M Φ Q r rv ru h k => by
  obtain ⟨d, hd, h⟩ := YR h r rv
  obtain ⟨e, he, ok, q⟩ := YR h r ru
  obtain ⟨c1, c2, hdp⟩ := FW ok
  exact ⟨_, d, e, hd, he, c1, c2, hdp, k.dat r Step.refl (Dt.bl _) q⟩⟩
noncomputable def GZ : D1 := fun xs M Φ => on1 xs fun x => Wn x M fun d => Shw d ∧ Φ (.dat (.str d.shown)) M
theorem BJ (xs : List DV) (M : Mp) (Φ : DK) : GZ xs M Φ = (on1 xs fun x => Wn x M fun d => Shw d ∧ Φ (.dat (.str d.shown)) M) := propext Iff.rfl
theorem BW {k : Nat} (hr : J0 k X.A) : QP X (.builtin "repr") GZ := by
 refine ⟨_, Yf hr.gd (by have := hr.un; omega), fun vs H xs M Φ Q r rv h k => ?_⟩
 replace h := Zm h
 obtain ⟨x, rfl, h⟩ := h
 obtain ⟨v, rfl, h1⟩ := Paired.one rv
 obtain ⟨d, hd, hs, q⟩ := YR h r h1
 exact ⟨v, d, _, rfl, hd, hs.s, hs.m, hs.dp, hs.z, k.dat r Step.refl (Dt.str _) q⟩
noncomputable def T6 (T : String) : D1 := fun xs M Φ => match xs with | [x, .ty t] => t = T ∧ Wn x M fun d => Φ (.dat (.bool (Zl T d))) M | _ => False
theorem BH : QA X (.builtin "isinstance") (fun xs H Q => ∃ v d M T U p b, xs = [v, .ref p] ∧ Dt X.K M H v d ∧ H p = some (.tup [.ty T, .ty U]) ∧ PySem.W.kitAny X.K (.type (tyN d)) [.type T, .type U] = some b ∧ Q (.bl b) H) := by
 intro pins s σ H xs us Q I r h
 obtain ⟨v, d, M, T, U, p, b, rfl, hd, hp, e, q⟩ := h
 obtain ⟨u, w', rfl, ru, rt⟩ := vals2 r
 cases (show w' = Value.ref p from rt)
 have fin : ∀ tk, EP X pins σ Q (.bool b) { s with toks := tk } := fun tk => ⟨.bl b, H, I.tok tk, rfl, q⟩
 obtain ⟨its, rv, ⟨⟨cls, dd, data, sl⟩, ho, hc, n, hda⟩, _⟩ := I.tuple (.inl (.inl hp))
 simp only at hc hda
 subst hc hda
 have ei : its = [.type T, .type U] := by
  cases rv with
  | cons a1 a2 =>
   cases a2 with
   | cons a2 a3 =>
    cases a3
    rw [show _ = Value.type T from a1, show _ = Value.type U from a2]
 subst ei
 cases hd with
 | non => cases ru; exact PySem.W.kia_tup PySem.W.kitx_none I.kIn True.intro ho e (fun z => nomatch z) fin
 | bl y => cases ru; exact PySem.W.kia_tup PySem.W.kitx_bool I.kIn True.intro ho e (fun z => nomatch z) fin
 | int i => obtain ⟨t, rfl⟩ := ru; exact PySem.W.kia_tup PySem.W.kitx_int I.kIn True.intro ho e (fun z => nomatch z) fin
 | str y => obtain ⟨t, rfl⟩ := ru; exact PySem.W.kia_tup PySem.W.kitx_str I.kIn True.intro ho e (fun z => nomatch z) fin
 | tup h1 _ =>
  cases ru
  obtain ⟨_, _, ⟨o, hq, hc, _⟩, _⟩ := I.tuple h1.sq
  exact PySem.W.kia_tup PySem.W.kitx_tuple I.kIn ⟨o, hq, hc⟩ ho e (fun z => nomatch z) fin
 | lst h1 _ =>
  cases ru
  obtain ⟨_, _, ⟨o, n, hq, hc, _⟩, _⟩ := I.list h1.sq
  exact PySem.W.kia_tup PySem.W.kitx_list I.kIn ⟨o, hq, hc⟩ ho e (fun z => nomatch z) fin
 | dK _ h1 _ =>
  cases ru
  obtain ⟨_, _, vs, _, p⟩ := (show Qp X.prog X.w H s.heap _ (.dK _) from I.hok _ _ h1)
  obtain ⟨o, es, ep, g1, g2, _⟩ := p
  exact PySem.W.kia_tup PySem.W.kitx_dict I.kIn ⟨o, g1, g2.1⟩ ho e (fun z => nomatch z) fin
 | dT _ h1 _ =>
  cases ru
  obtain ⟨_, _, xs, _, o, es, ep, g1, g2, _⟩ := (show Qp X.prog X.w H s.heap _ (.dT _) from I.hok _ _ h1)
  exact PySem.W.kia_tup PySem.W.kitx_dict I.kIn ⟨o, g1, g2.1⟩ ho e (fun z => nomatch z) fin
 | dX _ h1 _ h3 _ _ =>
  cases ru
  obtain ⟨hφ, _⟩ := (show Qp X.prog X.w H s.heap _ (.ext _) from I.hok _ _ h1)
  obtain ⟨o, es, n, u, hq, hc, _⟩ := h3 s.heap hφ
  exact PySem.W.kia_tup PySem.W.kitx_dict I.kIn ⟨o, hq, hc⟩ ho e (fun z => nomatch z) fin
theorem Ow (K : PySem.W.Frag) (d : PyData) : PySem.W.kitAny K (.type (tyN d)) [.type "list", .type "tuple"] = some (Zl "list" d || Zl "tuple" d) := by cases d <;> rfl
noncomputable def NA (te : DTE) : DTE := fun Δ M Φ => te Δ M fun x M1 => Wn x M1 fun d => Φ (.dat (.bool (Zl "list" d || Zl "tuple" d))) M1
theorem Lq (te : DTE) (Δ : DSt) (M : Mp) (Φ : DK) : NA te Δ M Φ = (te Δ M fun x M1 => Wn x M1 fun d => Φ (.dat (.bool (Zl "list" d || Zl "tuple" d))) M1) := propext Iff.rfl
theorem Gh {e : Expr} {te : DTE} {x1 : Nat} {p p1 p2 pt pos : Pos} (hg : Gl X "isinstance") (hm : X.mg "isinstance" = none) (hv : bootBuiltins "isinstance" = some (.builtin "isinstance")) (hgl : Gl X "list") (hml : X.mg "list" = none) (hvl : bootBuiltins "list" = some (.type "list"))
  (hgt : Gl X "tuple") (hmt : X.mg "tuple" = none) (hvt : bootBuiltins "tuple" = some (.type "tuple")) (he : DE X e te)
  (hs : starEach [e, .Tuple [.Name "list" p1, .Name "tuple" p2] x1 pt] X.env = (false, eval e X.env) :: starEach [.Tuple [.Name "list" p1, .Name "tuple" p2] x1 pt] X.env := by rfl)
  (hs2 : starEach [.Tuple [.Name "list" p1, .Name "tuple" p2] x1 pt] X.env = (false, eval (.Tuple [.Name "list" p1, .Name "tuple" p2] x1 pt) X.env) :: starEach [] X.env := by rfl)
  (hs3 : starEach [.Name "list" p1, .Name "tuple" p2] X.env = (false, eval (.Name "list" p1) X.env) :: starEach [.Name "tuple" p2] X.env := by rfl)
  (hs4 : starEach [.Name "tuple" p2] X.env = (false, eval (.Name "tuple" p2) X.env) :: starEach [] X.env := by rfl)
  (hpl : (backTo pos (starEach [.Tuple [.Name "list" p1, .Name "tuple" p2] x1 pt] X.env)).any (·.1) = false := by rfl) :
  DE X (.Call (.Name "isinstance" p) [e, .Tuple [.Name "list" p1, .Name "tuple" p2] x1 pt] [] pos) (NA te) := by
 obtain ⟨t0, p0, q0⟩ := he
 have L := Ki (v := V.ty "list") (pos := p1) hgl hml hvl rfl (by decide) (by decide)
 have U := Ki (v := V.ty "tuple") (pos := p2) hgt hmt hvt rfl (by decide) (by decide)
 refine ⟨_, Ws BH hg hm hv (Jq p0 (Jq (EZ (Jq L (Jq U Ka hs4) hs3)) Ka hs2) hs) (by decide) (by decide) hs hpl, fun σ H Δ M Φ Q r e h k => ?_⟩
 refine q0 σ H Δ M _ _ r e h fun v H1 x M1 r1 st rv hx => ?_
 obtain ⟨d, hd, q⟩ := YR hx r1 rv
 refine ⟨by rw [sizeLine_eq]; show 2 ≤ 16777216; decide, fun a ha => ?_⟩
 have sn : Step (fun _ => none) H1 (fun _ => none) (upd H1 a (.tup [V.ty "list", V.ty "tuple"])) := Step.new ha
 exact ⟨v, d, _, "list", "tuple", a, _, rfl, Dt.step sn hd, Qe, Ow _ d, k.dat (r1.new ha) (st.trans (Step.new ha)) (Dt.bl _) q⟩
end
end DL
namespace DL
open PySem PySem.Spec PyProof.Rows L2
noncomputable def YlG (K : PySem.W.Frag) (J : It) (ds : List PyData) (G : Mp → Prop) (M : Mp) (H : Hp) : Prop := ∀ M2 H2, Step M H M2 H2 → Zv K M2 H2 → G M2 → ∀ i,
 (i < ds.length → J.go i H2 ∧ ∀ x H', J.yld i H2 x H' → Zv K M2 H2 → Zv K M2 H' ∧ Step M2 H2 M2 H' ∧ ∃ d, ds[i]? = some d ∧ Dt K M2 H' x d) ∧ (ds.length ≤ i → J.stop i H2)
noncomputable abbrev GB := DSt → Mp → (List PyData → (Mp → Prop) → Mp → Prop) → Prop
noncomputable def DIG (X : Cx) (tg iter : Expr) (src : GB) : Prop := ∃ wi, PI X tg iter wi ∧ ∀ σ H Δ M Ψ (R : It → Hp → Prop), Zv X.K M H → Qu X.K M H σ Δ → src Δ M Ψ →
 (∀ J H' M' ds G, Zv X.K M' H' → Step M H M' H' → YlG X.K J ds G M' H' → Ψ ds G M' → R J H') → wi σ H R
section
variable {X : Cx}
noncomputable abbrev Ro (ds : List PyData) (G : Mp → Prop) (M1 : Mp) (Δ : DSt) (ix : List (Option Nat)) (g : DTG) (tc : DTT) (te : DTE) (ψ : List PyData → Mp → Prop) : Prop := ds.length ≤ sizeLine ∧ ∃ J : Nat → List PyData → Mp → Prop, (∀ i acc M', J i acc M' → G M') ∧ J 0 [] M1 ∧
 (∀ i d acc M', ds[i]? = some d → J i acc M' → g (.dat d) (W4 ix Δ) M' fun Δ2 M2 => tc Δ2 M2 fun b M3 => if b = true then te Δ2 M3 fun y M4 => onD y fun e => J (i + 1) (acc ++ [e]) M4 else J (i + 1) acc M3) ∧ ∀ acc M', J ds.length acc M' → ψ acc M'
set_option maxHeartbeats 2000000 in
noncomputable def TR (ow : Bool) (src : GB) (ix : List (Option Nat)) (g : DTG) (tc : DTT) (te : DTE) : DTE := fun Δ M Φ => src Δ M fun ds G M1 => ds.length ≤ sizeLine ∧ ∃ J : Nat → List PyData → Mp → Prop, (∀ i acc M', J i acc M' → G M') ∧ J 0 [] M1 ∧
 (∀ i d acc M', ds[i]? = some d → J i acc M' → g (.dat d) (W4 ix Δ) M' fun Δ2 M2 => tc Δ2 M2 fun b M3 => if b = true then te Δ2 M3 fun y M4 => onD y fun e => J (i + 1) (acc ++ [e]) M4 else J (i + 1) acc M3) ∧ ∀ acc M', J ds.length acc M' → WH ow Φ acc M'
noncomputable def Zbl (ta : DTA) : GB := fun Δ M Ψ => ta Δ M fun xs M1 => on2 xs fun x y => onK x M1 fun as => onL y fun bs => Ψ (Tt as bs) (fun M2 => onK x M2 fun cs => cs = as) M1
end
end DL
namespace DL
open PySem PySem.Spec PyProof.Rows L2
section
variable {X : Cx}
noncomputable def Rh : D1 := fun xs M Φ => on1 xs fun x => onK x M fun ds => UP ds fun ss => ss.length < 64 ∧ ∀ ss' : List Str, ss'.Perm ss → sortedS ss' = true → ∀ p, M p = none → Φ (.own p) (ZE M p (.lst (ss'.map PyData.str)))
end
end DL
namespace DL
open PySem PySem.Spec PyProof.Rows L2 PySem.W
noncomputable def T3 (x : DV) (M : Mp) (P : List PyData → Prop) : Prop := match x with | .dat (.list ds) => P ds | .own q => Jw (M q) P | _ => False
section
variable {X : Cx}
noncomputable def ZbZ : D2 := fun x y M Φ => onD x fun d => T3 y M fun ds => okIn d ds = true ∧ Φ (.dat (.bool (ds.any fun e => PyData.eqv e d))) M
noncomputable def Ru : D2 := fun x y M Φ => onD x fun d => T3 y M fun ds => okIn d ds = true ∧ Φ (.dat (.bool (!(ds.any fun e => PyData.eqv e d)))) M
noncomputable def Zbt (i : Nat) (t : DTS) : DTS := fun D Δ M => onV Δ[i]? fun x => onO x fun l => Jw (M l) fun ds => t D (Δ.set i (some (.dat (.list ds)))) (VA M l)
end
end DL
namespace DL
open PySem PySem.Spec PyProof.Rows L2 PySem.W
noncomputable def Itd (o : Obj) (a : Addr) (ks : List Key) : It :=
 ⟨fun i H => i < ks.length ∧ ∃ kvs, H a = some (.frz o (.dK kvs)) ∧ kvs.map (·.1) = ks, fun i H x H' => H' = H ∧ ∃ k, ks[i]? = some k ∧ x = kV k,
  fun i H => ks.length ≤ i ∧ ∃ kvs, H a = some (.frz o (.dK kvs)) ∧ kvs.map (·.1) = ks⟩
noncomputable def Zbh (o : Obj) (a it : Addr) (n : Nat) (i : Nat) (h : Heap) : Prop := ∃ es ep, o.data = .dict es ep ∧ h.IsKeyIter it a i n ep
section
variable {X : Cx} {tg l : Expr} {tl : TE}
noncomputable def ZbN (tl : TE) : TI := fun σ H R => tl σ H fun x H1 => ∃ a kvs, x = .ref a ∧ ((H1 a = some (.dK kvs) ∧ ∀ o, R (Itd o a (kvs.map (·.1))) (upd H1 a (.frz o (.dK kvs)))) ∨ ∃ o, H1 a = some (.frz o (.dK kvs)) ∧ R (Itd o a (kvs.map (·.1))) H1)
end
noncomputable def Za1 (o : Option OO) (P : List (Key × PyData) → Prop) (Q : Obj → List (Key × PyData) → Prop) : Prop := match o with | some (.dkv ps) => P ps | some (.fdk o ps) => Q o ps | _ => False
section
variable {X : Cx} {tg iter : Expr} {te : DTE} {g : DTG} {tb : DTS} {body : List Stmt} {pos : Pos}
noncomputable def Zcg (te : DTE) : GB := fun Δ M Ψ => te Δ M fun x M1 => onO x fun l => Za1 (M1 l) (fun ps => ∀ o, Ψ (ps.map fun p => kD p.1) (fun M2 => M2 l = some (.fdk o ps)) (ZE M1 l (.fdk o ps))) fun o ps => Ψ (ps.map fun p => kD p.1) (fun M2 => M2 l = some (.fdk o ps)) M1
noncomputable def Nq (G : Mp → Prop) (g : DTG) (tb : DTS) (D : Z1) (ds : List PyData) (Δ : DSt) (M : Mp) : Prop :=
 ∃ J : Nat → DSt → Mp → Prop, (∀ i Δ M, J i Δ M → G M) ∧ J 0 Δ M ∧ (∀ i d Δ M, ds[i]? = some d → J i Δ M → g (.dat d) Δ M fun Δ2 M2 => tb { D with nx := J (i + 1), ct := J (i + 1), bk := D.nx } Δ2 M2) ∧ ∀ Δ M, J ds.length Δ M → D.nx Δ M
noncomputable def ZbH (src : GB) (g : DTG) (tb : DTS) : DTS := fun D Δ M => src Δ M fun ds G M1 => Nq G g tb D ds Δ M1
end
noncomputable def Zai (o : Option OO) (P : List (Key × PyData) → Prop) : Prop := match o with | some (.dkv ps) => P ps | some (.fdk _ ps) => P ps | _ => False
section
variable {X : Cx} {o i : Expr} {td ti : DTE} {pos : Pos}
noncomputable def ZbV (td ti : DTE) : DTE := fun Δ M Φ => td Δ M fun x M1 => ti Δ M1 fun y M2 => onO x fun l => onS y fun s => Zai (M2 l) fun ps => ∃ d, Qv ps (.inr s) = some d ∧ Φ (.dat d) M2
noncomputable def TH : D1 := fun xs M Φ => on1 xs fun x => onO x fun l => Zai (M l) fun ps => Φ (.dat (.int ps.length)) M
end
end DL
namespace DL
open PySem PySem.Spec PyProof.Rows L2 PySem.W Builtin Builtin.Str
section
variable {X : Cx}
noncomputable def ZaC : V → List V → Hp → VK → Prop := fun x xs H Q => ∃ z y, x = .str z ∧ xs = [.str y] ∧ (y.length == 0) = false ∧ z.length ≤ 10000000 ∧ ∀ l, H l = none → Q (.ref l) (upd H l (.lst ((Txt.split z y).map V.str)))
noncomputable def TU (to te : DTE) : DTE := fun Δ M Φ => to Δ M fun x M1 => onS x fun z => te Δ M1 fun y M2 => onS y fun w => ((w.length == 0) = false ∧ z.length ≤ 10000000) ∧ Φ (.dat (.list ((Txt.split z w).map PyData.str))) M2
noncomputable def Tg : V → List V → Hp → VK → Prop := fun x xs H Q => ∃ z y, x = .str z ∧ xs = [.str y] ∧ Q (.bl (Txt.startswith z y)) H
noncomputable def RN (to te : DTE) : DTE := fun Δ M Φ => to Δ M fun x M1 => onS x fun z => te Δ M1 fun y M2 => onS y fun w => Φ (.dat (.bool (Txt.startswith z w))) M2
noncomputable def ZaM : D1 := fun xs M Φ => on1 xs fun x => onS x fun z => ∃ n, PySem.intText? z = some n ∧ z.length ≤ 640 ∧ Φ (.dat (.int n)) M
section
variable {a b : Expr} {rest : List Expr} {ta tb : DTE} {pos : Pos}
noncomputable def ZcP (ta tb : DTE) : DTE := fun Δ M Φ => ta Δ M fun x M1 => onS x fun z => z.length ≤ 1000 ∧ if z.length = 0 then tb Δ M1 Φ else Φ (.dat (.str z)) M1
end
noncomputable def Rt (to : DTE) : DTE := fun Δ M Φ => to Δ M fun x M1 => onO x fun l => Jw (M1 l) fun ds => Φ (.dat .none) (ZE M1 l (.lst ds.reverse))
noncomputable def EA : DTS := fun _ _ _ => False
theorem Ca (D : Z1) (Δ : DSt) (M : Mp) : EA D Δ M = False := rfl
theorem WG {st : Stmt} : DS X st EA := ⟨_, D3, fun _ _ _ _ _ _ _ _ h => h.elim⟩
end
end DL
namespace DL
open PySem PySem.Spec PyProof.Rows L2 PySem.W
theorem Paired.getL {α β : Type} {F : α → β → Prop} : ∀ {l : List α} {m : List β} {i : Nat} {a : α}, Paired F l m → l[i]? = some a → ∃ b, m[i]? = some b ∧ F a b
 | _, _, _, _, .nil, e => by simp at e
 | _, _, 0, _, .cons h _, e => by simp at e; subst e; exact ⟨_, rfl, h⟩
 | _, _, i + 1, a, .cons _ h, e => by
  obtain ⟨b, h1, h2⟩ := Paired.getL (i := i) (a := a) h (by simpa using e)
  exact ⟨b, by simpa using h1, h2⟩
theorem Paired.atI {α β : Type} {F : α → β → Prop} {l : List α} {m : List β} {i : Int} {b : β} (h : Paired F l m) (e : L2.atI m i = some b) : ∃ a, L2.atI l i = some a ∧ F a b := by
 unfold L2.atI at e ⊢
 rw [Paired.length h]
 cases q : ixN m.length i with
 | none => rw [q] at e; cases e
 | some j =>
  rw [q] at e
  exact Paired.RD h e
theorem Paired.app {α β : Type} {F : α → β → Prop} : ∀ {l l' : List α} {m m' : List β}, Paired F l m → Paired F l' m' → Paired F (l ++ l') (m ++ m')
 | _, _, _, _, .nil, h => h
 | _, _, _, _, .cons h1 h2, h => .cons h1 (Paired.app h2 h)
theorem Paired.rev {α β : Type} {F : α → β → Prop} : ∀ {l : List α} {m : List β}, Paired F l m → Paired F l.reverse m.reverse
 | _, _, .nil => .nil
 | _, _, .cons h1 h2 => by
  rw [List.reverse_cons, List.reverse_cons]
  exact Paired.app (Paired.rev h2) (.cons h1 .nil)
section
variable {K : PySem.W.Frag} {M M' : Mp} {H H' : Hp}
theorem Zv.lv (r : Zv K M H) {a : Addr} {n : Nat} {xs : List DV} (h : M a = some (.lsv n xs)) : ∃ vs, H a = some (.lst vs) ∧ Paired (VR0 K M H) vs xs := r.ok a _ h
theorem Zv.Ex (r : Zv K M H) {p : Addr} {n : Nat} {vs : List V} {xs : List DV} (st : Step M H (ZE M p (.lsv n xs)) (upd H p (.lst vs))) (h : Paired (VR0 K M H) vs xs) : Zv K (ZE M p (.lsv n xs)) (upd H p (.lst vs)) :=
 r.EW st ⟨vs, Qe, Paired.L6 h fun _ _ z => z.step st⟩
theorem Mxs.of : ∀ {vs : List V} {xs : List DV}, Paired (VR0 K M H) vs xs → Mxs K M H vs xs
 | _, _, .nil => .nil
 | _, .dat d :: _, .cons h1 h2 => .dat h1 (Mxs.of h2)
 | _, .own b :: _, .cons h1 h2 => by
  cases (show _ = V.ref b from h1)
  exact .own (Mxs.of h2)
 | _, .mix ys :: _, .cons h1 h2 => .mix h1 (Mxs.of h2)
 | _, .ty t :: _, .cons h1 h2 => h1.elim
theorem Mxs.vr : ∀ {vs : List V} {xs : List DV}, Mxs K M H vs xs → Paired (VR0 K M H) vs xs
 | _, _, .nil => .nil
 | _, _, .dat h1 h2 => .cons h1 (Mxs.vr h2)
 | _, _, .own h2 => .cons rfl (Mxs.vr h2)
 | _, _, .mix h1 h2 => .cons h1 (Mxs.vr h2)
theorem Dts.vr : ∀ {vs : List V} {ds : List PyData}, Dts K M H vs ds → Paired (VR0 K M H) vs (ds.map DV.dat)
 | _, _, .nil => .nil
 | _, _, .cons h1 h2 => .cons h1 (Dts.vr h2)
theorem Bl : ∀ {vs : List V} {ds : List PyData}, Paired (VR0 K M H) vs (ds.map DV.dat) → Dts K M H vs ds
 | vs, [], h => by rw [List.map_nil] at h; cases h; exact .nil
 | vs, d :: ds, h => by
  rw [List.map_cons] at h
  cases h with
  | cons h1 h2 => exact .cons h1 (Bl h2)
mutual
inductive AsD (M : Mp) : DV → PyData → Prop
 | dat (d : PyData) : AsD M (.dat d) d
 | lsv {a : Addr} {n : Nat} {xs : List DV} {ds : List PyData} : M a = some (.lsv n xs) → U0 M xs ds → AsD M (.own a) (.list ds)
 | mix {xs : List DV} {ds : List PyData} : U0 M xs ds → AsD M (.mix xs) (.tuple ds)
inductive U0 (M : Mp) : List DV → List PyData → Prop
 | nil : U0 M [] []
 | cons {x : DV} {xs : List DV} {d : PyData} {ds : List PyData} : AsD M x d → U0 M xs ds → U0 M (x :: xs) (d :: ds)
end
mutual
theorem AsD.dt (r : Zv K M H) : ∀ {x : DV} {d : PyData}, AsD M x d → ∀ {v : V}, VR0 K M H v x → Dt K (fun _ => none) H v d
 | _, _, .dat _, _, h => Dt.step Step.all h
 | _, _, .lsv hm hs, _, h => by
  cases (show _ = V.ref _ from h)
  exact .lst (.inl ⟨rfl, .inl (r.lv hm).choose_spec.1⟩) (U0.dt r hs (r.lv hm).choose_spec.2)
 | _, _, .mix hs, _, h => by
  cases (show Mx K M H _ _ from h) with
  | mk h1 h2 h3 => exact .tup (.inl ⟨rfl, .inl h2⟩) (U0.dt r hs h3.vr)
theorem U0.dt (r : Zv K M H) : ∀ {xs : List DV} {ds : List PyData}, U0 M xs ds → ∀ {vs : List V}, Paired (VR0 K M H) vs xs → Dts K (fun _ => none) H vs ds
 | _, _, .nil, _, h => by cases h; exact .nil
 | _, _, .cons h1 h2, _, h => by
  cases h with
  | cons a b => exact .cons (AsD.dt r h1 a) (U0.dt r h2 b)
end
mutual
noncomputable def Je : PyData → Bool
 | .none => true
 | .bool _ => true
 | .int _ => true
 | .str _ => true
 | .tuple ds => J3 ds
 | _ => false
noncomputable def J3 : List PyData → Bool
 | [] => true
 | d :: ds => Je d && J3 ds
end
theorem HG (r : Zv K M H) {a : Addr} {xs : List V} (h : Rd H a (.tup xs)) : M a = none := by
 cases q : M a with
 | none => rfl
 | some o =>
  have g := r.ok a o q
  exfalso
  have no : ∀ u, H a = some u → (∀ ys, u ≠ .tup ys) → (∀ o ys, u ≠ .frz o (.tup ys)) → False := fun u e n1 n2 => by
   rcases h with h | ⟨o, h⟩
   ·rw [h] at e; cases e; exact n1 _ rfl
   ·rw [h] at e; cases e; exact n2 _ _ rfl
  cases o with
  | lst ds => obtain ⟨vs, e, _⟩ := g; exact no _ e (fun _ z => nomatch z) (fun _ _ z => nomatch z)
  | dct ks => obtain ⟨vs, e, _⟩ := g; exact no _ e (fun _ z => nomatch z) (fun _ _ z => nomatch z)
  | dtv ps => obtain ⟨vs, e, _⟩ := g; exact no _ e (fun _ z => nomatch z) (fun _ _ z => nomatch z)
  | dkv ps => obtain ⟨vs, e, _⟩ := g; exact no _ e (fun _ z => nomatch z) (fun _ _ z => nomatch z)
  | dko ps => obtain ⟨vs, e, _⟩ := g; exact no _ e (fun _ z => nomatch z) (fun _ _ z => nomatch z)
  | fdk o ps => obtain ⟨vs, e, _⟩ := g; exact no _ e (fun _ z => nomatch z) (fun _ _ z => (by cases z))
  | lsv n xs => obtain ⟨vs, e, _⟩ := g; exact no _ e (fun _ z => nomatch z) (fun _ _ z => nomatch z)
  | ext φ => exact no _ g (fun _ z => nomatch z) (fun _ _ z => nomatch z)
theorem Dv (r : Zv K M H) {a : Addr} {xs : List V} (h : TupAt K M' H a xs) : TupAt K M H a xs := by
 rcases h with ⟨_, h⟩ | h
 ·exact .inl ⟨HG r h, h⟩
 ·exact .inr h
mutual
theorem Dt.back (r : Zv K M H) : ∀ {v : V} {d : PyData}, Dt K M' H v d → Je d = true → Dt K M H v d
 | _, _, .non, _ => .non
 | _, _, .bl b, _ => .bl b
 | _, _, .int i, _ => .int i
 | _, _, .str x, _ => .str x
 | _, _, .tup h1 h2, l => .tup (Dv r h1) (Dts.back r h2 (by rw [Je] at l; exact l))
 | _, _, .lst _ _, l => by simp [Je] at l
 | _, _, .dK _ _ _, l => by simp [Je] at l
 | _, _, .dT _ _ _, l => by simp [Je] at l
 | _, _, .dX _ _ _ _ _ _, l => by simp [Je] at l
theorem Dts.back (r : Zv K M H) : ∀ {vs : List V} {ds : List PyData}, Dts K M' H vs ds → J3 ds = true → Dts K M H vs ds
 | _, _, .nil, _ => .nil
 | _, _, .cons h1 h2, l => .cons (Dt.back r h1 (by rw [J3, Bool.and_eq_true] at l; exact l.1)) (Dts.back r h2 (by rw [J3, Bool.and_eq_true] at l; exact l.2))
end
end
noncomputable def Qy : DSt → DSt
 | [] => []
 | _ :: r => none :: Qy r
noncomputable def Qw : Nat → DV → DSt → DSt
 | _, _, [] => []
 | 0, x, _ :: r => some x :: Qy r
 | n + 1, x, _ :: r => none :: Qw n x r
theorem Xo : Qy [] = [] := by rw [Qy]
theorem YJ (y : Option DV) (r : DSt) : Qy (y :: r) = none :: Qy r := by rw [Qy]
theorem Xm (x : DV) (y : Option DV) (r : DSt) : Qw 0 x (y :: r) = some x :: Qy r := by rw [Qw]
theorem XB (n : Nat) (x : DV) (y : Option DV) (r : DSt) : Qw (n + 1) x (y :: r) = none :: Qw n x r := by rw [Qw]
theorem Ya : ∀ (Δ : DSt), (Qy Δ).length = Δ.length
 | [] => rfl
 | _ :: r => by rw [Qy, List.length_cons, List.length_cons, Ya r]
theorem V5 : ∀ (Δ : DSt) (j : Nat) (y : DV), (Qy Δ)[j]? ≠ some (some y)
 | [], j, y, h => by simp [Qy] at h
 | _ :: r, 0, y, h => by simp [Qy] at h
 | _ :: r, j + 1, y, h => by rw [Qy, List.getElem?_cons_succ] at h; exact V5 r j y h
theorem Xv : ∀ (i : Nat) (x : DV) (Δ : DSt), (Qw i x Δ).length = Δ.length
 | _, _, [] => by rw [Qw]
 | 0, x, _ :: r => by rw [Qw, List.length_cons, List.length_cons, Ya r]
 | n + 1, x, _ :: r => by rw [Qw, List.length_cons, List.length_cons, Xv n x r]
theorem XE : ∀ {i : Nat} {x : DV} {Δ : DSt} {j : Nat} {y : DV}, (Qw i x Δ)[j]? = some (some y) → j = i ∧ y = x
 | _, _, [], j, y, h => by simp [Qw] at h
 | 0, x, _ :: r, 0, y, h => by simp [Qw] at h; exact ⟨rfl, h.symm⟩
 | 0, x, _ :: r, j + 1, y, h => by rw [Qw, List.getElem?_cons_succ] at h; exact absurd h (V5 r j y)
 | n + 1, x, _ :: r, 0, y, h => by simp [Qw] at h
 | n + 1, x, _ :: r, j + 1, y, h => by
  rw [Qw, List.getElem?_cons_succ] at h
  obtain ⟨e1, e2⟩ := XE h
  exact ⟨by rw [e1], e2⟩
section
variable {X : Cx} {e o i : Expr} {es : List Expr} {te to ti : DTE} {t : DTA} {pos pos' : Pos}
noncomputable def Kh (o : Option OO) (P : Nat → List DV → Prop) : Prop := match o with | some (.lsv n xs) => P n xs | _ => False
theorem JG (n : Nat) (xs : List DV) (P : Nat → List DV → Prop) : Kh (some (.lsv n xs)) P = P n xs := propext Iff.rfl
theorem JO {o : Option OO} {P : Nat → List DV → Prop} (h : Kh o P) : ∃ n xs, o = some (.lsv n xs) ∧ P n xs := by
 unfold Kh at h
 split at h
 ·exact ⟨_, _, rfl, h⟩
 ·exact h.elim
noncomputable def Zam (n : Nat) (te : DTE) : DTE := fun Δ M Φ => onV Δ[n]? fun x => ∃ d, AsD M x d ∧ te (Qw n (.dat d) Δ) (fun _ => none) fun y _ => onD y fun c => Je c = true ∧ Φ (.dat c) M
theorem N8 (n : Nat) (te : DTE) (Δ : DSt) (M : Mp) (Φ : DK) : Zam n te Δ M Φ = (onV Δ[n]? fun x => ∃ d, AsD M x d ∧ te (Qw n (.dat d) Δ) (fun _ => none) fun y _ => onD y fun c => Je c = true ∧ Φ (.dat c) M) := propext Iff.rfl
theorem ZU.RS {K : PySem.W.Frag} {M : Mp} {H : Hp} {v : V} {x : DV} {d : PyData} (h : ZU K M H v x) (a : AsD M x d) : VR0 K M H v x := h.zero fun t e => by subst e; cases a
theorem WE (n : Nat) (h : DE X e te) : DE X e (Zam n te) := by
 obtain ⟨u, p, q⟩ := h
 refine ⟨u, p, fun σ H Δ M Φ Q r er h k => ?_⟩
 replace h := EV h
 obtain ⟨x, ex, d, hd, h⟩ := h
 obtain ⟨v, ev, rv⟩ := er.at' n x ex
 have hdt : Dt X.K (fun _ => none) H v d := AsD.dt r hd (rv.RS hd)
 have r0 : Zv X.K (fun _ => none) H := ⟨fun a o z => nomatch z⟩
 have e0 : Qu X.K (fun _ => none) H σ (Qw n (.dat d) Δ) := ⟨by rw [Xv]; exact er.len, fun j y z => by
  obtain ⟨rfl, rfl⟩ := XE z
  exact ⟨v, ev, hdt⟩⟩
 refine q σ H _ _ _ _ r0 e0 h fun w H' y M' r' st' rw' hy => ?_
 replace hy := Qi hy
 obtain ⟨c, rfl, lf, f⟩ := hy
 have st : Step M H M H' := ⟨fun b o _ z => st'.keep b o rfl z, fun b o z _ => z⟩
 have r2 : Zv X.K M H' := r.step_same st fun a u _ z => st'.keep a u rfl z
 exact k _ _ (.dat c) M r2 st (Dt.back r2 rw' lf) f
noncomputable def Mg (t : DTA) (ti : DTE) : DTE := fun Δ M Φ => t Δ M fun xs M1 => Nat.ble xs.length 100 = true ∧ ti Δ M1 fun y M2 => onI y fun i => ∃ x, L2.atI xs i = some x ∧ Φ x M2
theorem HZ (t : DTA) (ti : DTE) (Δ : DSt) (M : Mp) (Φ : DK) : Mg t ti Δ M Φ = (t Δ M fun xs M1 => Nat.ble xs.length 100 = true ∧ ti Δ M1 fun y M2 => onI y fun i => ∃ x, L2.atI xs i = some x ∧ Φ x M2) := propext Iff.rfl
theorem YM (h : DA X es t) (hi : DE X i ti) (hs : Kt i := by intro _ _; rfl) : DE X (.Subscript (.List es pos) i pos') (Mg t ti) := by
 obtain ⟨u, p, q⟩ := h
 obtain ⟨u2, p2, q2⟩ := hi
 refine ⟨_, O4 EL (Wz p) p2 hs, fun σ H Δ M Φ Q r e h k => ?_⟩
 refine q σ H Δ M _ _ r e h fun vs H1 xs M1 r1 st rv hx => ?_
 obtain ⟨hl, hx⟩ := hx
 have hlen : vs.length = xs.length := Paired.length rv
 have hl' := Nat.le_of_ble_eq_true hl
 refine ⟨by rw [hlen, sizeLine_eq]; omega, fun a ha => ?_⟩
 have st1 : Step M1 H1 M1 (upd H1 a (.lst vs)) := Step.new ha
 refine q2 σ _ Δ M1 _ _ (r1.new ha) (e.step (st.trans st1)) hx fun w H2 y M2 r2 st2 rw2 hy => ?_
 replace hy := ZH hy
 obtain ⟨j, rfl, x, hx2, q3⟩ := hy
 cases rw2.int
 have hH : H2 a = some (.lst vs) := st2.keep _ _ (r1.tracked ha) Qe
 obtain ⟨v, e1, e2⟩ := Paired.atI rv hx2
 exact .inl ⟨a, vs, j, v, rfl, rfl, SqL.of hH, e1, k _ _ x _ r2 (st.trans (st1.trans st2)) (ZU.step e2 (st1.trans st2)) q3⟩
noncomputable def ED : List DV → Prop → Prop
 | [], P => P
 | x :: r, P => Ut x (ED r P)
theorem W7 (P : Prop) : ED [] P = P := propext Iff.rfl
theorem Ko (x : DV) (r : List DV) (P : Prop) : ED (x :: r) P = Ut x (ED r P) := propext Iff.rfl
theorem C6 (ys : List DV) (P : Prop) : Ut (.mix ys) P = P := propext Iff.rfl
theorem Gz {K : PySem.W.Frag} {M : Mp} {H : Hp} : ∀ {xs : List DV} {P : Prop}, ED xs P → (∀ {vs : List V}, Jv K M H vs xs → Paired (VR0 K M H) vs xs) ∧ P
 | [], P, h => ⟨fun q => by cases q; exact .nil, h⟩
 | x :: r, P, h => by
  obtain ⟨n, h2⟩ := GU (show Ut x (ED r P) from h)
  obtain ⟨h3, h4⟩ := Gz (K := K) (M := M) (H := H) h2
  refine ⟨fun q => ?_, h4⟩
  cases q with
  | cons a b => exact .cons (ZU.zero a n) (h3 b)
noncomputable def Ng (n : Nat) (t : DTA) : DTE := fun Δ M Φ => t Δ M fun xs M1 => ED xs (Nat.ble xs.length 100 = true ∧ ∀ p, M1 p = none → Φ (.own p) (ZE M1 p (.lsv n xs)))
theorem Lv (n : Nat) (t : DTA) (Δ : DSt) (M : Mp) (Φ : DK) : Ng n t Δ M Φ = (t Δ M fun xs M1 => ED xs (Nat.ble xs.length 100 = true ∧ ∀ p, M1 p = none → Φ (.own p) (ZE M1 p (.lsv n xs)))) := propext Iff.rfl
theorem U9 (n : Nat) (h : DA X es t) : DE X (.List es pos) (Ng n t) := by
 obtain ⟨u, p, q⟩ := h
 refine ⟨_, Wz p, fun σ H Δ M Φ Q r e h k => ?_⟩
 refine q σ H Δ M _ _ r e h fun vs H1 xs M1 r1 st rv hx => ?_
 obtain ⟨hz, hl, hx⟩ := Gz (K := X.K) (M := M1) (H := H1) hx
 have hlen : vs.length = xs.length := Paired.length rv
 have hl' := Nat.le_of_ble_eq_true hl
 refine ⟨by rw [hlen, sizeLine_eq]; omega, fun a ha => ?_⟩
 exact k _ _ (.own a) _ (r1.Ex (Step.Jj ha) (hz rv)) (st.trans (Step.Jj ha)) rfl (hx a (r1.tracked ha))
noncomputable def WZ (to te : DTE) : DTE := fun Δ M Φ => to Δ M fun x M1 => onO x fun l => Kh (M1 l) fun _ _ => te Δ M1 fun y M2 => Ut y (Kh (M2 l) fun n xs => xs.length < sizeLine ∧ Φ (.dat .none) (ZE M2 l (.lsv n (xs ++ [y]))))
theorem W9 (to te : DTE) (Δ : DSt) (M : Mp) (Φ : DK) : WZ to te Δ M Φ = (to Δ M fun x M1 => onO x fun l => Kh (M1 l) fun _ _ => te Δ M1 fun y M2 => Ut y (Kh (M2 l) fun n xs => xs.length < sizeLine ∧ Φ (.dat .none) (ZE M2 l (.lsv n (xs ++ [y]))))) := propext Iff.rfl
theorem Ye {apos cpos : Pos} (ho : DE X o to) (he : DE X e te) (hbase : attributeBase o "append" X.env (eval o X.env) = eval o X.env := by rfl)
  (hfew : ((backTo cpos (starEach [e] X.env)).all (fun x => !x.1) && (backToKw cpos (keywordEach [] X.env)).all (fun x => x.1.isSome)
   && decide ([e].length + ([] : List Keyword).length + (if ([] : List Keyword).isEmpty then 0 else 1) < 30)) = true := by rfl)
  (hline : (apos.endLine == cpos.line) = true := by rfl) (hs : starEach [e] X.env = (false, eval e X.env) :: starEach [] X.env := by rfl) (hplain : (backTo cpos (starEach [] X.env)).any (·.1) = false := by rfl) :
  DE X (.Call (.Attribute o "append" apos) [e] [] cpos) (WZ to te) := by
 obtain ⟨t1, p1, q1⟩ := ho
 obtain ⟨t2, p2, q2⟩ := he
 refine ⟨_, Mf PySem.F.plainAttrs_list PySem.F.slot_list_append PySem.F.type_list_append Kd p1 (Jq p2 Ka hs) hbase hfew hline hs hplain, fun σ H Δ M Φ Q r e h k => ?_⟩
 refine q1 σ H Δ M _ _ r e h fun v H1 x M1 r1 st rv hx => ?_
 replace hx := Q0 hx
 obtain ⟨l, rfl, hx⟩ := hx
 replace hx := JO hx
 obtain ⟨n0, xs0, ho, hx⟩ := hx
 cases (show v = .ref l from rv)
 have ty : tyV X.K "list" (.ref l) H1 := by
  obtain ⟨vs, g1, _⟩ := r1.lv ho
  exact .inl ⟨rfl, vs, SqL.of g1⟩
 refine ⟨ty, q2 σ H1 Δ M1 _ _ r1 (e.step st) hx fun w H2 y M2 r2 st2 rw2 hy => ?_⟩
 obtain ⟨nt, hy⟩ := GU hy
 replace hy := JO hy
 obtain ⟨n, xs, hm, hz, hy⟩ := hy
 obtain ⟨vs, g1, g2⟩ := r2.lv hm
 have st3 : Step M2 H2 (ZE M2 l (.lsv n (xs ++ [y]))) (upd H2 l (.lst (vs ++ [w]))) := Step.Wq hm
 refine ⟨l, vs, w, rfl, rfl, g1, by rw [Paired.length g2]; exact hz, ?_⟩
 exact k.dat (r2.Ex st3 (Paired.app g2 (.cons (ZU.zero rw2 nt) .nil))) (st.trans (st2.trans st3)) Dt.non hy
noncomputable def X7 (to : DTE) : DTE := fun Δ M Φ => to Δ M fun x M1 => onO x fun l => Kh (M1 l) fun n xs => Φ (.dat .none) (ZE M1 l (.lsv n xs.reverse))
theorem Kl (to : DTE) (Δ : DSt) (M : Mp) (Φ : DK) : X7 to Δ M Φ = (to Δ M fun x M1 => onO x fun l => Kh (M1 l) fun n xs => Φ (.dat .none) (ZE M1 l (.lsv n xs.reverse))) := propext Iff.rfl
theorem KL {apos cpos : Pos} (ho : DE X o to) (hbase : attributeBase o "reverse" X.env (eval o X.env) = eval o X.env := by rfl) (hline : (apos.endLine == cpos.line) = true := by rfl) :
  DE X (.Call (.Attribute o "reverse" apos) [] [] cpos) (X7 to) := by
 obtain ⟨t1, p1, q1⟩ := ho
 refine ⟨_, PY PySem.F.plainAttrs_list PySem.F.slot_list_reverse PySem.F.type_list_reverse Ug p1 hbase hline, fun σ H Δ M Φ Q r e h k => ?_⟩
 refine q1 σ H Δ M _ _ r e h fun v H1 x M1 r1 st rv hx => ?_
 replace hx := Q0 hx
 obtain ⟨l, rfl, hx⟩ := hx
 replace hx := JO hx
 obtain ⟨n, xs, hm, hx⟩ := hx
 cases (show v = .ref l from rv)
 obtain ⟨vs, g1, g2⟩ := r1.lv hm
 refine ⟨.inl ⟨rfl, _, SqL.of g1⟩, l, _, rfl, rfl, g1, ?_⟩
 have st2 : Step M1 H1 (ZE M1 l (.lsv n xs.reverse)) (upd H1 l (.lst vs.reverse)) := Step.Wq hm
 exact k.dat (r1.Ex st2 (Paired.rev g2)) (st.trans st2) Dt.non hx
noncomputable def E3 : D1 := fun xs M Φ => on1 xs fun x => onO x fun l => Kh (M l) fun _ ys => (Φ (.mix ys) M) ∨ ∃ ds, ys = ds.map DV.dat ∧ Φ (.dat (.tuple ds)) M
theorem El (xs : List DV) (M : Mp) (Φ : DK) : E3 xs M Φ = (on1 xs fun x => onO x fun l => Kh (M l) fun _ ys => (Φ (.mix ys) M) ∨ ∃ ds, ys = ds.map DV.dat ∧ Φ (.dat (.tuple ds)) M) := propext Iff.rfl
theorem Bk : QP X (.type "tuple") E3 := by
 refine ⟨_, JH, fun vs H xs M Φ Q r rv h k => ?_⟩
 replace h := Zm h
 obtain ⟨x, rfl, h⟩ := h
 replace h := Q0 h
 obtain ⟨l, rfl, h⟩ := h
 replace h := JO h
 obtain ⟨n, ys, hm, h⟩ := h
 obtain ⟨v, rfl, h1⟩ := Paired.one rv
 cases (show v = .ref l from h1)
 obtain ⟨ws, g1, g2⟩ := r.lv hm
 refine ⟨l, ws, rfl, .inl ⟨SqL.of g1, fun a ha => ?_⟩⟩
 rcases h with h | ⟨ds, rfl, h⟩
 ·refine k _ _ (.mix ys) M (r.new ha) (Step.new ha) ?_ h
  exact Mx.mk (r.tracked ha) Qe ((Mxs.of g2).step (Step.new ha))
 ·exact k.dat (r.new ha) (Step.new ha) (Dt.Yb r ha (Bl g2)) h
noncomputable def Bx (n : Nat) : D1 := fun xs M Φ => on1 xs fun x => onT x fun ds => ∀ p, M p = none → Φ (.own p) (ZE M p (.lsv n (ds.map DV.dat)))
theorem BB (n : Nat) (xs : List DV) (M : Mp) (Φ : DK) : Bx n xs M Φ = (on1 xs fun x => onT x fun ds => ∀ p, M p = none → Φ (.own p) (ZE M p (.lsv n (ds.map DV.dat)))) := propext Iff.rfl
theorem WD (n : Nat) : QP X (.type "list") (Bx n) := by
 refine ⟨_, J5, fun vs H xs M Φ Q r rv h k => ?_⟩
 replace h := Zm h
 obtain ⟨x, rfl, h⟩ := h
 replace h := VN h
 obtain ⟨ds, rfl, h⟩ := h
 obtain ⟨v, rfl, h1⟩ := Paired.one rv
 obtain ⟨p, ys, rfl, g1, g2⟩ := ZU.tup h1
 exact ⟨p, ys, rfl, .inr g1.sq, fun l hl => k _ _ (.own l) _ (r.Ex (Step.Jj hl) g2.vr) (Step.Jj hl) rfl (h l (r.tracked hl))⟩
theorem BL : QA X (.builtin "isinstance") (fun xs H Q => (∃ v d M T b, xs = [v, .ty T] ∧ Dt X.K M H v d ∧ PySem.W.kitOne X.K (.type (tyN d)) (.type T) = some b ∧ Q (.bl b) H) ∨
  ∃ a b, xs = [.ref a, .ty "list"] ∧ ((b = true ∧ ∃ ys, SqL X.K H a ys) ∨ (b = false ∧ ∃ ys, SqT X.K H a ys)) ∧ Q (.bl b) H) := by
 intro pins s σ H xs us Q I r h
 rcases h with h | ⟨a, b, rfl, h, q⟩
 ·exact XM pins s σ H xs us Q I r h
 obtain ⟨u, w', rfl, ru, rt⟩ := vals2 r
 cases (show w' = Value.type "list" from rt)
 cases ru
 have fin : ∀ tk, EP X pins σ Q (.bool b) { s with toks := tk } := fun tk => ⟨.bl b, H, I.tok tk, rfl, q⟩
 rcases h with ⟨rfl, ys, h⟩ | ⟨rfl, ys, h⟩
 ·obtain ⟨_, _, ⟨o, n, ho, hc, _⟩, _⟩ := I.list h
  exact PySem.W.kia_one PySem.W.kitx_list I.kIn ⟨o, ho, hc⟩ (by rfl) (fun z => nomatch z) fin
 ·obtain ⟨_, _, ⟨o, ho, hc, _⟩, _⟩ := I.tuple h
  exact PySem.W.kia_one PySem.W.kitx_tuple I.kIn ⟨o, ho, hc⟩ (by rfl) (fun z => nomatch z) fin
noncomputable def OE (x : DV) (M : Mp) (P : Bool → Prop) : Prop := match x with
 | .dat d => P (Zl "list" d)
 | .mix _ => P false
 | .own l => Kh (M l) fun _ _ => P true
 | .ty _ => False
theorem DH (d : PyData) (M : Mp) (P : Bool → Prop) : OE (.dat d) M P = P (Zl "list" d) := propext Iff.rfl
theorem B6 (xs : List DV) (M : Mp) (P : Bool → Prop) : OE (.mix xs) M P = P false := propext Iff.rfl
theorem Ei (l : Addr) (M : Mp) (P : Bool → Prop) : OE (.own l) M P = Kh (M l) fun _ _ => P true := propext Iff.rfl
noncomputable def ET : D1 := fun xs M Φ => on2 xs fun x y => y = .ty "list" ∧ OE x M fun b => Φ (.dat (.bool b)) M
theorem Ep (xs : List DV) (M : Mp) (Φ : DK) : ET xs M Φ = (on2 xs fun x y => y = .ty "list" ∧ OE x M fun b => Φ (.dat (.bool b)) M) := propext Iff.rfl
theorem Hu : QP X (.builtin "isinstance") ET := by
 refine ⟨_, BL, fun vs H xs M Φ Q r rv h k => ?_⟩
 replace h := Qr h
 obtain ⟨x, y, rfl, rfl, h⟩ := h
 obtain ⟨v, u, rfl, h1, h2⟩ := Paired.two rv
 cases (show u = .ty "list" from h2)
 cases x with
 | dat d => exact .inl ⟨v, d, M, "list", _, rfl, h1, Dh _ d, k.dat r Step.refl (Dt.bl _) h⟩
 | mix ys =>
  cases (show Mx X.K M H v ys from h1) with
  | mk g1 g2 g3 => exact .inr ⟨_, false, rfl, .inr ⟨rfl, _, SqT.of g2⟩, k.dat r Step.refl (Dt.bl _) h⟩
 | own l =>
  cases (show v = .ref l from h1)
  obtain ⟨n, ys, hm, h⟩ := JO (show Kh (M l) fun _ _ => Φ (.dat (.bool true)) M from h)
  obtain ⟨ws, g1, g2⟩ := r.lv hm
  exact .inr ⟨l, true, rfl, .inl ⟨rfl, _, SqL.of g1⟩, k.dat r Step.refl (Dt.bl _) h⟩
 | ty t => exact h.elim
end
noncomputable def LS (x : DV) (M : Mp) (P : List DV → (Mp → Prop) → Prop) : Prop := match x with
 | .dat (.tuple ds) => P (ds.map DV.dat) (fun _ => True)
 | .mix xs => P xs (fun _ => True)
 | .own l => Kh (M l) fun n xs => P xs (fun M2 => M2 l = some (.lsv n xs))
 | _ => False
theorem B1 (ds : List PyData) (M : Mp) (P : List DV → (Mp → Prop) → Prop) : LS (.dat (.tuple ds)) M P = P (ds.map DV.dat) (fun _ => True) := propext Iff.rfl
theorem D0 (xs : List DV) (M : Mp) (P : List DV → (Mp → Prop) → Prop) : LS (.mix xs) M P = P xs (fun _ => True) := propext Iff.rfl
theorem Cz (l : Addr) (M : Mp) (P : List DV → (Mp → Prop) → Prop) : LS (.own l) M P = Kh (M l) fun n xs => P xs (fun M2 => M2 l = some (.lsv n xs)) := propext Iff.rfl
noncomputable def YlV (K : PySem.W.Frag) (J : It) (xs : List DV) (G : Mp → Prop) (M : Mp) (H : Hp) : Prop := ∀ M2 H2, Step M H M2 H2 → Zv K M2 H2 → G M2 → ∀ i,
 (i < xs.length → J.go i H2 ∧ ∀ x H', J.yld i H2 x H' → H' = H2 ∧ ∃ y, xs[i]? = some y ∧ ZU K M2 H2 x y) ∧ (xs.length ≤ i → J.stop i H2)
theorem Oz {K : PySem.W.Frag} {M : Mp} {H : Hp} {l : Addr} {n : Nat} {xs : List DV} : YlV K (Itl K l) xs (fun M2 => M2 l = some (.lsv n xs)) M H := by
 intro M2 H2 st2 r2 hG i
 obtain ⟨vs, g1, g2⟩ := r2.lv hG
 have hl : vs.length = xs.length := Paired.length g2
 refine ⟨fun hi => ?_, fun hi => ⟨vs, SqL.of g1, by rw [hl]; exact hi⟩⟩
 have hv : i < vs.length := by rw [hl]; exact hi
 refine ⟨⟨vs, vs[i], SqL.of g1, by simp [hv]⟩, fun x H' z => ?_⟩
 obtain ⟨e, y⟩ := z
 obtain ⟨b, e1, e2⟩ := Paired.getL g2 (y vs (SqL.of g1))
 exact ⟨e, b, e1, e2.rel⟩
theorem EJ {K : PySem.W.Frag} {M : Mp} {H : Hp} {a : Addr} {vs : List V} {xs : List DV} (hp : ∀ M2 H2, Step M H M2 H2 → SqT K H2 a vs ∧ Paired (VR0 K M2 H2) vs xs) : YlV K (Itt K a) xs (fun _ => True) M H := by
 intro M2 H2 st2 r2 hG i
 obtain ⟨g1, g2⟩ := hp M2 H2 st2
 have hl : vs.length = xs.length := Paired.length g2
 refine ⟨fun hi => ?_, fun hi => ⟨vs, g1, by rw [hl]; exact hi⟩⟩
 have hv : i < vs.length := by rw [hl]; exact hi
 refine ⟨⟨vs, vs[i], g1, by simp [hv]⟩, fun x H' z => ?_⟩
 obtain ⟨e, y⟩ := z
 obtain ⟨b, e1, e2⟩ := Paired.getL g2 (y vs g1)
 exact ⟨e, b, e1, e2.rel⟩
section
variable {X : Cx} {tg iter : Expr} {te : DTE} {g : DTG} {tb : DTS} {body : List Stmt} {pos : Pos}
noncomputable def EH (G : Mp → Prop) (g : DTG) (tb : DTS) (D : Z1) (xs : List DV) (Δ : DSt) (M : Mp) : Prop :=
 ∃ J : Nat → DSt → Mp → Prop, (∀ i Δ M, J i Δ M → G M) ∧ J 0 Δ M ∧ (∀ i x Δ M, xs[i]? = some x → J i Δ M → g x Δ M fun Δ2 M2 => tb { D with nx := J (i + 1), ct := J (i + 1), bk := D.nx } Δ2 M2) ∧ ∀ Δ M, J xs.length Δ M → D.nx Δ M
noncomputable def MB (te : DTE) (g : DTG) (tb : DTS) : DTS := fun D Δ M => te Δ M fun x M1 => LS x M1 fun xs G => EH G g tb D xs Δ M1
theorem FF (te : DTE) (g : DTG) (tb : DTS) (D : Z1) (Δ : DSt) (M : Mp) : MB te g tb D Δ M = (te Δ M fun x M1 => LS x M1 fun xs G => EH G g tb D xs Δ M1) := propext Iff.rfl
theorem LX {x : DV} {v : V} {M : Mp} {H : Hp} {P : List DV → (Mp → Prop) → Prop} (h : LS x M P) (r : Zv X.K M H) (rv : ZU X.K M H v x) :
  ∃ a xs G J, v = .ref a ∧ (((∃ vs, SqL X.K H a vs) ∧ J = Itl X.K a) ∨ ((∃ vs, SqT X.K H a vs) ∧ J = Itt X.K a)) ∧ YlV X.K J xs G M H ∧ P xs G := by
 unfold LS at h
 split at h
 ·obtain ⟨a, xs, rfl, h1, h2⟩ := ZU.tup rv
  exact ⟨a, _, _, _, rfl, .inr ⟨⟨xs, h1.sq⟩, rfl⟩, EJ (fun M2 H2 st => ⟨(h1.step st).sq, (h2.step st).vr⟩), h⟩
 ·cases (show Mx X.K M H v _ from rv) with
  | mk h1 h2 h3 => exact ⟨_, _, _, _, rfl, .inr ⟨⟨_, SqT.of h2⟩, rfl⟩, EJ (fun M2 H2 st => ⟨SqT.of (st.keep _ _ h1 h2), (h3.step st).vr⟩), h⟩
 ·obtain ⟨n, xs, hm, h⟩ := JO h
  cases (show v = .ref _ from rv)
  obtain ⟨vs, g1, g2⟩ := r.lv hm
  exact ⟨_, _, _, _, rfl, .inl ⟨⟨_, SqL.of g1⟩, rfl⟩, Oz (n := n), h⟩
 ·exact h.elim
theorem HK (he : DE X iter te) (hg : DG X tg g) (hb : DSs X body tb) (hp : PassesOwn (model X.prog X.w) X.A X.env X.xe) (hc : X.calm = true) (hs : ∀ x, foldedSetIterable iter X.env x = pure x := by intro _; rfl) :
  DS X (.For tg iter body [] pos) (MB te g tb) := by
 obtain ⟨t1, p1, q1⟩ := he
 obtain ⟨t2, p2, q2⟩ := hg
 obtain ⟨t3, p3, q3⟩ := hb
 refine ⟨_, WK hp hc (Pf p1) p2 p3 hs, fun σ H Δ M D E r e h k => ?_⟩
 refine q1 σ H Δ M _ _ r e h fun v H1 x M1 r1 st rv hx => ?_
 obtain ⟨a, xs, G, Jt, rfl, hJ, yl, I, jg, j0, jt, jd⟩ := LX hx r1 rv
 have main : ∃ W : Nat → Nat → L2.St → Hp → Prop, (∃ m, W 0 m σ H1) ∧ ∀ i m σ H, W i m σ H →
   (Jt.stop i H ∧ E.nx σ H) ∨ (Jt.go i H ∧ ∃ N : L2.St → Hp → Prop, (∀ σ' H', N σ' H' → ∃ m', m' < m ∧ W (i + 1) m' σ' H') ∧ ∀ x H', Jt.yld i H x H' → t2 x σ H' fun σ2 H2 => t3 { E with nx := N, ct := N, bk := E.nx } σ2 H2) := by
  refine ⟨fun i m σ H => (∃ Δ M, Zv X.K M H ∧ Step M1 H1 M H ∧ Qu X.K M H σ Δ ∧ I i Δ M) ∧ i + m = xs.length, ⟨xs.length, ⟨Δ, M1, r1, Step.refl, e.step st, j0⟩, Nat.zero_add _⟩, fun i m σ H hW => ?_⟩
  obtain ⟨⟨Δ, M, r', st', e', j⟩, hm⟩ := hW
  by_cases hi : i < xs.length
  ·obtain ⟨go, yd⟩ := (yl M H st' r' (jg i Δ M j) i).1 hi
   refine .inr ⟨go, fun σ' H' => ∃ Δ' M', Zv X.K M' H' ∧ Step M1 H1 M' H' ∧ Qu X.K M' H' σ' Δ' ∧ I (i + 1) Δ' M', fun σ' H' h => ⟨m - 1, by omega, h, by omega⟩, fun x H' hy => ?_⟩
   obtain ⟨rfl, y, hd, hv⟩ := yd x H' hy
   refine q2 x σ H' y Δ M _ _ r' e' hv (jt i y Δ M hd j) fun σ3 H3 Δ3 M3 r3 st3 e3 hb3 => ?_
   refine q3 σ3 H3 Δ3 M3 _ _ r3 e3 hb3 ?_
   have s12 : Step M1 H1 M3 H3 := st'.trans st3
   exact ⟨fun σ' H' Δ' M' a b c d => ⟨Δ', M', a, s12.trans b, c, d⟩, k.rt.step (st.trans s12), fun σ' H' Δ' M' a b c d => k.nx σ' H' Δ' M' a ((st.trans s12).trans b) c d,
    fun σ' H' Δ' M' a b c d => ⟨Δ', M', a, s12.trans b, c, d⟩⟩
  ·have ei : i = xs.length := by omega
   refine .inl ⟨(yl M H st' r' (jg i Δ M j) i).2 (by omega), ?_⟩
   rw [ei] at j
   exact k.nx σ H Δ M r' (st.trans st') e' (jd Δ M j)
 rcases hJ with ⟨hq, rfl⟩ | ⟨hq, rfl⟩
 ·exact ⟨a, rfl, .inl ⟨hq, main⟩⟩
 ·exact ⟨a, rfl, .inr ⟨hq, main⟩⟩
end
end DL
namespace My
open PySem PySem.Spec PyProof.Rows L2 DL
set_option maxHeartbeats 8000000
noncomputable def top (i : Nat) : Stmt := PySem.Challenge.pw_landsentered_k03_shapes_made.main.body.getD i (.Pass ⟨0, 0, 0, 0⟩)
noncomputable abbrev Qk : Stmt := top 2
noncomputable abbrev Qm : Stmt := top 3
noncomputable abbrev ZT : Stmt := top 5
noncomputable abbrev QB : Stmt := top 6
noncomputable abbrev Jb : Stmt := top 7
noncomputable abbrev Qd : Stmt := top 8
noncomputable abbrev ZI : Stmt := top 9
noncomputable abbrev Um : Stmt := top 10
noncomputable abbrev Qa : Stmt := top 16
noncomputable abbrev Qc : Stmt := top 17
noncomputable abbrev Z8 : Stmt := top 18
noncomputable abbrev QI : Stmt := top 19
noncomputable abbrev Qn : Stmt := top 20
noncomputable abbrev V9 : Stmt := top 22
noncomputable abbrev VX : Stmt := top 23
noncomputable abbrev s_same : Stmt := top 24
noncomputable abbrev JA : Stmt := top 25
noncomputable abbrev Z6 : Stmt := top 26
noncomputable abbrev QC : Stmt := top 27
noncomputable abbrev Q9 : Stmt := top 28
noncomputable abbrev JY : Stmt := top 29
noncomputable abbrev W2 : Stmt := top 30
theorem Wg : Zt ["thing"] ["thing"] (Ze Qk) := ⟨rfl, rfl, rfl, by decide +kernel, rfl, by decide +kernel, by decide +kernel⟩
theorem KW : Zt ["thing"] ["thing"] (Ze Qm) := ⟨rfl, rfl, rfl, by decide +kernel, rfl, by decide +kernel, by decide +kernel⟩
theorem VU : Zt ["thing"] ["thing"] (Ze ZT) := ⟨rfl, rfl, rfl, by decide +kernel, rfl, by decide +kernel, by decide +kernel⟩
theorem W6 : Zt ["thing"] ["thing"] (Ze QB) := ⟨rfl, rfl, rfl, by decide +kernel, rfl, by decide +kernel, by decide +kernel⟩
theorem Bp : Zt ["thing"] ["thing"] (Ze Jb) := ⟨rfl, rfl, rfl, by decide +kernel, rfl, by decide +kernel, by decide +kernel⟩
theorem Xh : Zt ["box"] ["box"] (Ze Qd) := ⟨rfl, rfl, rfl, by decide +kernel, rfl, by decide +kernel, by decide +kernel⟩
theorem Va : Zt ["one", "other"] ["one", "other"] (Ze ZI) := ⟨rfl, rfl, rfl, by decide +kernel, rfl, by decide +kernel, by decide +kernel⟩
theorem Oq : Zt ["one", "other", "way"] ["one", "other", "way"] (Ze Um) := ⟨rfl, rfl, rfl, by decide +kernel, rfl, by decide +kernel, by decide +kernel⟩
theorem Kp : Zt ["thing"] ["thing"] (Ze Qa) := ⟨rfl, rfl, rfl, by decide +kernel, rfl, by decide +kernel, by decide +kernel⟩
theorem KR : Zt ["boxes"] ["boxes"] (Ze Qc) := ⟨rfl, rfl, rfl, by decide +kernel, rfl, by decide +kernel, by decide +kernel⟩
theorem Vo : Zt ["things", "shape"] ["things"] (Ze Z8) := ⟨rfl, rfl, rfl, by decide +kernel, rfl, by decide +kernel, by decide +kernel⟩
theorem UL : Zt ["thing"] ["thing"] (Ze QI) := ⟨rfl, rfl, rfl, by decide +kernel, rfl, by decide +kernel, by decide +kernel⟩
theorem K6 : Zt ["thing"] ["thing"] (Ze Qn) := ⟨rfl, rfl, rfl, by decide +kernel, rfl, by decide +kernel, by decide +kernel⟩
theorem JB : Zt ["_law_pen", "_law_many", "_law_at", "_law_cell", "_law_one", "_law_two", "_law_digit"] ["_law_pen", "_law_many"] (Ze V9) := ⟨rfl, rfl, rfl, by decide +kernel, rfl, by decide +kernel, by decide +kernel⟩
theorem Yz : Zt ["_law_pen", "_law_many", "_law_found", "_law_k"] ["_law_pen", "_law_many"] (Ze VX) := ⟨rfl, rfl, rfl, by decide +kernel, rfl, by decide +kernel, by decide +kernel⟩
theorem Ht : Zt ["_law_found", "_law_due"] ["_law_found", "_law_due"] (Ze s_same) := ⟨rfl, rfl, rfl, by decide +kernel, rfl, by decide +kernel, by decide +kernel⟩
theorem Qx : Zt ["_law_pen", "_law_most", "_law_low", "_law_found", "_law_k", "_law_wide_here", "_law_first", "_law_last"] ["_law_pen", "_law_most"] (Ze JA) := ⟨rfl, rfl, rfl, by decide +kernel, rfl, by decide +kernel, by decide +kernel⟩
theorem Qf : Zt ["_law_boxes_here", "_law_by", "_law_off", "_law_found", "_law_low", "_law_high", "_law_first"] ["_law_boxes_here", "_law_by", "_law_off"] (Ze Z6) := ⟨rfl, rfl, rfl, by decide +kernel, rfl, by decide +kernel, by decide +kernel⟩
theorem Q3 : Zt ["_law_pen", "_law_by", "_law_off"] ["_law_pen"] (Ze QC) := ⟨rfl, rfl, rfl, by decide +kernel, rfl, by decide +kernel, by decide +kernel⟩
theorem QS : Zt ["_law_pen", "_law_boxes_here", "_law_found", "_law_low", "_law_high", "_law_parts"] ["_law_pen", "_law_boxes_here"] (Ze Q9) := ⟨rfl, rfl, rfl, by decide +kernel, rfl, by decide +kernel, by decide +kernel⟩
theorem WR : Zt ["_law_thing", "_law_part"] ["_law_thing"] (Ze JY) := ⟨rfl, rfl, rfl, by decide +kernel, rfl, by decide +kernel, by decide +kernel⟩
theorem Jh : Zt ["_law_script", "_law_pen", "_law_k", "_law_due", "_law_handed_here", "_law_kept", "_law_found", "_law_by", "_law_off"] ["_law_script"] (Ze W2) := ⟨rfl, rfl, rfl, by decide +kernel, rfl, by decide +kernel, by decide +kernel⟩
theorem Gd : bootBuiltins "abs" = some (.builtin "abs") := by decide +kernel
theorem EI : bootBuiltins "all" = some (.builtin "all") := by decide +kernel
theorem La : bootBuiltins "bool" = some (.type "bool") := by decide +kernel
theorem Po : bootBuiltins "int" = some (.type "int") := by decide +kernel
theorem Zy : bootBuiltins "isinstance" = some (.builtin "isinstance") := by decide +kernel
theorem J2 : bootBuiltins "len" = some (.builtin "len") := by decide +kernel
theorem JM : bootBuiltins "list" = some (.type "list") := by decide +kernel
theorem Fb : bootBuiltins "max" = some (.builtin "max") := by decide +kernel
theorem P8 : bootBuiltins "range" = some (.type "range") := by decide +kernel
theorem YZ : bootBuiltins "repr" = some (.builtin "repr") := by decide +kernel
theorem MN : bootBuiltins "str" = some (.type "str") := by decide +kernel
theorem ZV : bootBuiltins "tuple" = some (.type "tuple") := by decide +kernel
set_option genInjectivity false in
structure Tx (K : PySem.W.Frag) (mg : Str → Option Value) where
 Q4 : Addr
 Q1 : FuncData
 ZM : Own K mg "is_whole" Qk ["thing"] Q4 Q1
 JN : Addr
 JU : FuncData
 Z5 : Own K mg "is_short" Qm ["thing"] JN JU
 QF : Addr
 QK : FuncData
 Qj : Own K mg "is_any_spot" ZT ["thing"] QF QK
 Vv : Addr
 Vt : FuncData
 Qs : Own K mg "is_spot" QB ["thing"] Vv Vt
 Yk : Addr
 Yw : FuncData
 Vf : Own K mg "is_box" Jb ["thing"] Yk Yw
 Jy : Addr
 Jz : FuncData
 QE : Own K mg "has_spots" Qd ["box"] Jy Jz
 Qq : Addr
 Qt : FuncData
 Z3 : Own K mg "steps_between" ZI ["one", "other"] Qq Qt
 Hw : Addr
 Ls : FuncData
 Kj : Own K mg "gap" Um ["one", "other", "way"] Hw Ls
 Q2 : Addr
 Jc : FuncData
 ZO : Own K mg "is_shape" Qa ["thing"] Q2 Jc
 JS : Addr
 JR : FuncData
 Q7 : Own K mg "is_chain" Qc ["boxes"] JS JR
 JX : Addr
 JP : FuncData
 ZP : Own K mg "shape_of" Z8 ["things"] JX JP
 YE : Addr
 Yv : FuncData
 Vc : Own K mg "box_of" QI ["thing"] YE Yv
 Jd : Addr
 Q5 : FuncData
 ZN : Own K mg "parts_of" Qn ["thing"] Jd Q5
 VG : Addr
 VC : FuncData
 Zh : Own K mg "_law_take" V9 ["_law_pen", "_law_many"] VG VC
 UJ : Addr
 Gj : FuncData
 VE : Own K mg "_law_wide" VX ["_law_pen", "_law_many"] UJ Gj
 GR : Addr
 Gb : FuncData
 QD : Own K mg "_law_same" s_same ["_law_found", "_law_due"] GR Gb
 Kn : Addr
 K2 : FuncData
 Yy : Own K mg "_law_boxes" JA ["_law_pen", "_law_most"] Kn K2
 Jn : Addr
 Js : FuncData
 QJ : Own K mg "_law_stretched" Z6 ["_law_boxes_here", "_law_by", "_law_off"] Jn Js
 VL : Addr
 VI : FuncData
 JE : Own K mg "_law_stretch" QC ["_law_pen"] VL VI
 YX : Addr
 YI : FuncData
 Ve : Own K mg "_law_handed" Q9 ["_law_pen", "_law_boxes_here"] YX YI
 VQ : Addr
 Vh : FuncData
 Jr : Own K mg "_law_spoil" JY ["_law_thing"] VQ Vh
 NU : Addr
 PF : FuncData
 o_law : Own K mg "law" W2 ["_law_script"] NU PF
 FZ : mg "abs" = none
 Pk : mg "all" = none
 Ou : mg "bool" = none
 SU : mg "int" = none
 ZJ : mg "isinstance" = none
 XS : mg "len" = none
 V4 : mg "list" = none
 NW : mg "max" = none
 VP : mg "range" = none
 Wi : mg "repr" = none
 RZ : mg "str" = none
 Qb : mg "tuple" = none
 Nl : Tok
 EM : mg "MOST" = some (.int 999999999999 Nl)
 XQ : Tok
 Xx : mg "MOST_BOXES" = some (.int 6 XQ)
local macro_rules | `(tactic| walk_at "hd") => `(tactic| (subst_vars; (try dsimp only); refine DL.Dk fun R hR => ?_))
noncomputable def gp (a b a' b' : Int) : Int := max 0 (max (a' - b) (a - b'))
noncomputable def btw (x y X Y x' y' X' Y' : Int) : Int := max (gp x X x' X') (gp y Y y' Y')
structure B4 where
 x : Int
 y : Int
 X : Int
 Y : Int
noncomputable def bD (b : B4) : PyData := .tuple [.tuple [.int b.x, .int b.y], .tuple [.int b.X, .int b.Y]]
noncomputable def ZQ (a b : B4) : Int := btw a.x a.y a.X a.Y b.x b.y b.X b.Y
noncomputable def okB (b : B4) : Bool := decide (b.x ≤ b.X) && decide (b.y ≤ b.Y)
noncomputable def KH (f ox oy : Int) (b : B4) : B4 := ⟨b.x * f + ox, b.y * f + oy, b.X * f + f - 1 + ox, b.Y * f + f - 1 + oy⟩
noncomputable def toB : PyData → B4
 | .tuple [.tuple [.int x, .int y], .tuple [.int X, .int Y]] => ⟨x, y, X, Y⟩
 | _ => ⟨0, 0, 0, 0⟩
noncomputable def onX (x : DV) (P : B4 → Prop) : Prop := ∃ b, x = .dat (bD b) ∧ P b
theorem Wu (b : B4) (P : B4 → Prop) : onX (.dat (bD b)) P = P b := propext ⟨fun ⟨c, e, h⟩ => by
 rw [DV.dat.injEq] at e
 rw [show b = c from congrArg toB e]
 exact h, fun h => ⟨b, rfl, h⟩⟩
theorem Cr (x y X Y : Int) (P : B4 → Prop) : onX (.dat (.tuple [.tuple [.int x, .int y], .tuple [.int X, .int Y]])) P = P ⟨x, y, X, Y⟩ := Wu ⟨x, y, X, Y⟩ P
theorem X6 {x : DV} {P : B4 → Prop} (h : onX x P) : ∃ b, x = .dat (bD b) ∧ P b := h
theorem ZaT (b : B4) (M : Mp) (P : List PyData → Prop) : onQ (.dat (bD b)) M P = P [.tuple [.int b.x, .int b.y], .tuple [.int b.X, .int b.Y]] := rfl
theorem BR (b : B4) (M : Mp) (P : List PyData → Prop) : onQ (.dat (bD b)) M P = P [.tuple [.int b.x, .int b.y], .tuple [.int b.X, .int b.Y]] := propext Iff.rfl
theorem TF (b : B4) (P : List PyData → Prop) : onT (.dat (bD b)) P = P [.tuple [.int b.x, .int b.y], .tuple [.int b.X, .int b.Y]] := rfl
theorem Ea (b : B4) (P : List PyData → Prop) : onT (.dat (bD b)) P = P [.tuple [.int b.x, .int b.y], .tuple [.int b.X, .int b.Y]] := propext Iff.rfl
theorem Vy : ∀ bs : List B4, (bs.map bD).map toB = bs
 | [] => rfl
 | b :: bs => by rw [List.map_cons, List.map_cons, Vy bs]; rfl
noncomputable def L8 (x : DV) (P : List B4 → Prop) : Prop := ∃ bs, x = .dat (.tuple (bs.map bD)) ∧ P bs
noncomputable def Rm (x : DV) (P : List B4 → Prop) : Prop := ∃ bs, x = .dat (.list (bs.map bD)) ∧ P bs
theorem GK {x : DV} {P : List B4 → Prop} (h : L8 x P) : ∃ bs, x = .dat (.tuple (bs.map bD)) ∧ P bs := h
theorem Lu {x : DV} {P : List B4 → Prop} (h : Rm x P) : ∃ bs, x = .dat (.list (bs.map bD)) ∧ P bs := h
theorem Yd {as bs : List B4} (h : as.map bD = bs.map bD) : as = bs := by
 rw [← Vy as, h, Vy]
theorem FD (bs : List B4) (P : List B4 → Prop) : L8 (.dat (.tuple (bs.map bD))) P = P bs := propext ⟨fun ⟨cs, e, h⟩ => by
 rw [DV.dat.injEq, PyData.tuple.injEq] at e
 rw [Yd e]
 exact h, fun h => ⟨bs, rfl, h⟩⟩
theorem Lj (bs : List B4) (P : List B4 → Prop) : Rm (.dat (.list (bs.map bD))) P = P bs := propext ⟨fun ⟨cs, e, h⟩ => by
 rw [DV.dat.injEq, PyData.list.injEq] at e
 rw [Yd e]
 exact h, fun h => ⟨bs, rfl, h⟩⟩
noncomputable def ZF : PyData → Bool
 | .int _ => true
 | _ => false
noncomputable def Zp : PyData → Bool
 | .int i => decide (-999999999999 ≤ i) && decide (i ≤ 999999999999)
 | _ => false
noncomputable def Jk : PyData → Bool
 | .tuple [a, b] => ZF a && ZF b
 | _ => false
noncomputable def Z2 : PyData → Bool
 | .tuple [a, b] => Zp a && Zp b
 | _ => false
noncomputable def QO : PyData → Bool
 | .tuple [a, b] => Z2 a && (Z2 b && okB (toB (.tuple [a, b])))
 | _ => false
noncomputable def chB : List B4 → Bool
 | a :: b :: l => decide (ZQ a b ≤ 1) && chB (b :: l)
 | _ => true
noncomputable def QG : PyData → Bool
 | .tuple ds => (decide (1 ≤ ds.length) && decide (ds.length ≤ 6)) && (ds.all QO && chB (ds.map toB))
 | _ => false
noncomputable def Ri (c : Nat) : Bool := decide (97 ≤ c) && decide (c ≤ 122)
noncomputable def Qg : PyData → Bool
 | .str s => (decide (1 ≤ s.length) && decide (s.length ≤ 8)) && s.cps.toList.all Ri
 | _ => false
noncomputable def Kf : PyData → Bool
 | .str s => decide (s.length ≤ 1000)
 | _ => true
noncomputable def Vm : PyData → Bool
 | .int i => decide (0 ≤ i) && decide (i ≤ 1000000000000)
 | _ => false
noncomputable def BF : PyData → Bool
 | .int i => decide (0 ≤ i) && decide (i ≤ 999999999999)
 | _ => false
noncomputable def LC : List PyData → Bool
 | [o, s, v] => (isS o (Str.ofString "") || Qg o) && (QG s && BF v)
 | _ => false
noncomputable def FO : List PyData → Bool
 | [s] => Z2 s
 | _ => false
noncomputable def JJ (k : PyData) (l : List PyData) : Bool :=
 if isS k (Str.ofString "land") = true then LC l else if isS k (Str.ofString "spot") = true then FO l else l.isEmpty && (isS k (Str.ofString "drop") || isS k (Str.ofString "free"))
noncomputable def Z7 : PyData → Bool
 | .tuple (k :: t :: n :: l) => Vm t && (Qg n && JJ k l)
 | _ => false
noncomputable def S0 : PyData → Bool
 | .tuple ds => ds.all Kf
 | _ => true
noncomputable def spW : DSp := fun xs M Φ => on1 xs fun x => onD x fun d => Φ (.dat (.bool (ZF d))) M
theorem Tq (xs : List DV) (M : Mp) (Φ : DK) : spW xs M Φ = (on1 xs fun x => onD x fun d => Φ (.dat (.bool (ZF d))) M) := propext Iff.rfl
noncomputable def R0 : DSp := fun xs M Φ => on1 xs fun x => onD x fun d => Φ (.dat (.bool (Zp d))) M
theorem Nx (xs : List DV) (M : Mp) (Φ : DK) : R0 xs M Φ = (on1 xs fun x => onD x fun d => Φ (.dat (.bool (Zp d))) M) := propext Iff.rfl
noncomputable def SO : DSp := fun xs M Φ => on1 xs fun x => onD x fun d => Φ (.dat (.bool (Jk d))) M
theorem OA (xs : List DV) (M : Mp) (Φ : DK) : SO xs M Φ = (on1 xs fun x => onD x fun d => Φ (.dat (.bool (Jk d))) M) := propext Iff.rfl
noncomputable def Sz : DSp := fun xs M Φ => on1 xs fun x => onD x fun d => Φ (.dat (.bool (Z2 d))) M
theorem Nw (xs : List DV) (M : Mp) (Φ : DK) : Sz xs M Φ = (on1 xs fun x => onD x fun d => Φ (.dat (.bool (Z2 d))) M) := propext Iff.rfl
noncomputable def RC : DSp := fun xs M Φ => on1 xs fun x => onD x fun d => Φ (.dat (.bool (QO d))) M
theorem PD (xs : List DV) (M : Mp) (Φ : DK) : RC xs M Φ = (on1 xs fun x => onD x fun d => Φ (.dat (.bool (QO d))) M) := propext Iff.rfl
noncomputable def YC : DSp := fun xs M Φ => on1 xs fun x => onD x fun d => Φ (.dat (.bool (QG d))) M
theorem Ge (xs : List DV) (M : Mp) (Φ : DK) : YC xs M Φ = (on1 xs fun x => onD x fun d => Φ (.dat (.bool (QG d))) M) := propext Iff.rfl
noncomputable def spT : DSp := fun xs M Φ => on1 xs fun x => onD x fun d => Φ (.dat (.bool (Vm d))) M
theorem SK (xs : List DV) (M : Mp) (Φ : DK) : spT xs M Φ = (on1 xs fun x => onD x fun d => Φ (.dat (.bool (Vm d))) M) := propext Iff.rfl
noncomputable def Ti : DSp := fun xs M Φ => on1 xs fun x => onD x fun d => Φ (.dat (.bool (BF d))) M
theorem Hx (xs : List DV) (M : Mp) (Φ : DK) : Ti xs M Φ = (on1 xs fun x => onD x fun d => Φ (.dat (.bool (BF d))) M) := propext Iff.rfl
noncomputable def spN : DSp := fun xs M Φ => on1 xs fun x => onD x fun d => Kf d = true ∧ Φ (.dat (.bool (Qg d))) M
theorem RE (xs : List DV) (M : Mp) (Φ : DK) : spN xs M Φ = (on1 xs fun x => onD x fun d => Kf d = true ∧ Φ (.dat (.bool (Qg d))) M) := propext Iff.rfl
noncomputable def ZbM : DSp := fun xs M Φ => on1 xs fun x => onD x fun d => Kf d = true ∧ Φ (.dat (.bool (isS d (Str.ofString "") || Qg d))) M
theorem PQ (xs : List DV) (M : Mp) (Φ : DK) : ZbM xs M Φ = (on1 xs fun x => onD x fun d => Kf d = true ∧ Φ (.dat (.bool (isS d (Str.ofString "") || Qg d))) M) := propext Iff.rfl
noncomputable def Om : DSp := fun xs M Φ => on1 xs fun x => onD x fun d => S0 d = true ∧ Φ (.dat (.bool (Z7 d))) M
theorem DJ (xs : List DV) (M : Mp) (Φ : DK) : Om xs M Φ = (on1 xs fun x => onD x fun d => S0 d = true ∧ Φ (.dat (.bool (Z7 d))) M) := propext Iff.rfl
noncomputable def Hn : DSp := fun xs M Φ => on1 xs fun x => onX x fun b => Φ (.dat (.bool (okB b))) M
theorem Hq (xs : List DV) (M : Mp) (Φ : DK) : Hn xs M Φ = (on1 xs fun x => onX x fun b => Φ (.dat (.bool (okB b))) M) := propext Iff.rfl
noncomputable def Ft : DSp := fun xs M Φ => on3 xs fun x y z => onX x fun a => onX y fun b => onI z fun i => (i = 0 ∨ i = 1) ∧ Φ (.dat (.int (if i = 0 then gp a.x a.X b.x b.X else gp a.y a.Y b.y b.Y))) M
theorem FJ (xs : List DV) (M : Mp) (Φ : DK) : Ft xs M Φ = (on3 xs fun x y z => onX x fun a => onX y fun b => onI z fun i => (i = 0 ∨ i = 1) ∧ Φ (.dat (.int (if i = 0 then gp a.x a.X b.x b.X else gp a.y a.Y b.y b.Y))) M) := propext Iff.rfl
noncomputable def Vn : DSp := fun xs M Φ => on2 xs fun x y => onX x fun a => onX y fun b => Φ (.dat (.int (ZQ a b))) M
theorem KN (xs : List DV) (M : Mp) (Φ : DK) : Vn xs M Φ = (on2 xs fun x y => onX x fun a => onX y fun b => Φ (.dat (.int (ZQ a b))) M) := propext Iff.rfl
noncomputable def Ks : DSp := fun xs M Φ => on1 xs fun x => L8 x fun bs => bs.length ≤ 6 ∧ Φ (.dat (.bool (chB bs))) M
theorem BG (xs : List DV) (M : Mp) (Φ : DK) : Ks xs M Φ = (on1 xs fun x => L8 x fun bs => bs.length ≤ 6 ∧ Φ (.dat (.bool (chB bs))) M) := propext Iff.rfl
section
variable {P : Program} {w : World} {K : PySem.W.Frag} {mg : Str → Option Value} {base : Heap}
theorem XY {α : Type} {ds : List α} (h : ds.length = 2) : ∃ a b, ds = [a, b] := by
 match ds, h with
 | [a, b], _ => exact ⟨a, b, rfl⟩
theorem Xt {ds : List PyData} (h : ds.length ≠ 2) : Jk (.tuple ds) = false ∧ Z2 (.tuple ds) = false ∧ QO (.tuple ds) = false := by
 match ds, h with
 | [], _ => exact ⟨rfl, rfl, rfl⟩
 | [_], _ => exact ⟨rfl, rfl, rfl⟩
 | [_, _], h => exact absurd rfl h
 | _ :: _ :: _ :: _, _ => exact ⟨rfl, rfl, rfl⟩
theorem Wh {d : PyData} (h : ZF d = true) : ∃ i, d = .int i := by
 cases d <;> first | exact ⟨_, rfl⟩ | cases h
theorem Vq {d : PyData} (h : ZF d = false) : Zp d = false := by
 cases d <;> first | rfl | cases h
theorem T8 (n : Nat) : decide ((n : Int) = 2) = decide (n = 2) := decide_eq_decide.mpr (by omega)
theorem ES {d : PyData} (h : Jk d = true) : ∃ x y, d = .tuple [.int x, .int y] := by
 cases d with
 | tuple ds =>
  by_cases hl : ds.length = 2
  ·obtain ⟨a, b, rfl⟩ := XY hl
   have h' : ZF a = true ∧ ZF b = true := by simpa [Jk] using h
   obtain ⟨x, rfl⟩ := Wh h'.1
   obtain ⟨y, rfl⟩ := Wh h'.2
   exact ⟨x, y, rfl⟩
  ·rw [(Xt hl).1] at h
   cases h
 | _ => cases h
theorem WJ {d : PyData} (h : Jk d = false) : Z2 d = false := by
 cases d with
 | tuple ds =>
  by_cases hl : ds.length = 2
  ·obtain ⟨a, b, rfl⟩ := XY hl
   have h' : ZF a = false ∨ ZF b = false := by
    have : (ZF a && ZF b) = false := h
    exact Bool.and_eq_false_iff.mp this
   show (Zp a && Zp b) = false
   rcases h' with h' | h'
   ·rw [Vq h']
    rfl
   ·rw [Vq h', Bool.and_false]
  ·exact (Xt hl).2.1
 | _ => rfl
theorem YL {d : PyData} (h : Z2 d = true) : ∃ x y : Int, d = .tuple [.int x, .int y] ∧ Zp (.int x) = true ∧ Zp (.int y) = true := by
 cases q : Jk d with
 | false => rw [WJ q] at h; cases h
 | true =>
  obtain ⟨x, y, rfl⟩ := ES q
  exact ⟨x, y, rfl, Bool.and_eq_true_iff.mp h⟩
theorem box_of {d : PyData} (h : QO d = true) : ∃ b, d = bD b ∧ okB b = true := by
 cases d with
 | tuple ds =>
  by_cases hl : ds.length = 2
  ·obtain ⟨a, b, rfl⟩ := XY hl
   have h' : Z2 a = true ∧ Z2 b = true ∧ okB (toB (.tuple [a, b])) = true := by simpa [QO] using h
   obtain ⟨x, y, rfl, _⟩ := YL h'.1
   obtain ⟨x', y', rfl, _⟩ := YL h'.2.1
   exact ⟨⟨x, y, x', y'⟩, rfl, h'.2.2⟩
  ·rw [(Xt hl).2.2] at h
   cases h
 | _ => cases h
noncomputable def stB (bs : List B4) (j : Nat) : Bool := match bs[j]?, bs[j + 1]? with
 | some a, some b => decide (ZQ a b ≤ 1)
 | _, _ => true
theorem UK : ∀ bs : List B4, chB bs = (List.range (bs.length - 1)).all (stB bs)
 | [] => rfl
 | [_] => rfl
 | a :: b :: l => by
  have ih := UK (b :: l)
  show (decide (ZQ a b ≤ 1) && chB (b :: l)) = (List.range (l.length + 1)).all (stB (a :: b :: l))
  rw [ih, List.range_succ_eq_map, List.all_cons, List.all_map]
  rfl
theorem G7 {p : Prop} [Decidable p] {A B : Prop} (h1 : ¬ p → A) (h2 : p → B) : if (!decide p) = true then A else B := by
 by_cases h : p
 ·rw [decide_eq_true h, if_neg (by decide)]
  exact h2 h
 ·rw [decide_eq_false h, if_pos (by decide)]
  exact h1 h
theorem Wo : ∀ {ds : List PyData}, ds.all QO = true → ∃ bs : List B4, ds = bs.map bD
 | [], _ => ⟨[], rfl⟩
 | d :: ds, h => by
  rw [List.all_cons, Bool.and_eq_true] at h
  obtain ⟨b, rfl, _⟩ := box_of h.1
  obtain ⟨bs, rfl⟩ := Wo h.2
  exact ⟨b :: bs, rfl⟩
theorem Xf {ds : List PyData} (h : ¬ 1 ≤ (ds.length : Int) ∨ ¬ (ds.length : Int) ≤ 6) : QG (.tuple ds) = false := by
 show ((decide (1 ≤ ds.length) && decide (ds.length ≤ 6)) && _) = false
 rcases h with h | h
 ·rw [decide_eq_false (show ¬ 1 ≤ ds.length by omega)]
  rfl
 ·rw [decide_eq_false (show ¬ ds.length ≤ 6 by omega), Bool.and_false]
  rfl
theorem Zbr (c : Nat) : (!decide ((⟨#[c]⟩ : Str).cps.toList < (Str.ofString "a").cps.toList)) = decide (97 ≤ c) := by
 rw [Yx, show (Str.ofString "a").cps.toList = [97] by decide +kernel]
 by_cases h : 97 ≤ c
 ·rw [decide_eq_true h, decide_eq_false (fun z => by simp [List.cons_lt_cons_iff] at z; omega)]
  rfl
 ·rw [decide_eq_false h, decide_eq_true (by simp [List.cons_lt_cons_iff]; omega)]
  rfl
theorem Zb7 (c : Nat) : (!decide ((Str.ofString "z").cps.toList < (⟨#[c]⟩ : Str).cps.toList)) = decide (c ≤ 122) := by
 rw [Yx, show (Str.ofString "z").cps.toList = [122] by decide +kernel]
 by_cases h : c ≤ 122
 ·rw [decide_eq_true h, decide_eq_false (fun z => by simp [List.cons_lt_cons_iff] at z; omega)]
  rfl
 ·rw [decide_eq_false h, decide_eq_true (by simp [List.cons_lt_cons_iff]; omega)]
  rfl
theorem Pj {s : Str} (h : ¬ 1 ≤ (s.length : Int) ∨ ¬ (s.length : Int) ≤ 8) : Qg (.str s) = false := by
 show ((decide (1 ≤ s.length) && decide (s.length ≤ 8)) && s.cps.toList.all Ri) = false
 rcases h with h | h
 ·rw [decide_eq_false (show ¬ 1 ≤ s.length by omega)]
  rfl
 ·rw [decide_eq_false (show ¬ s.length ≤ 8 by omega), Bool.and_false]
  rfl
theorem Pn {ds : List PyData} (h : ds.length < 3) : Z7 (.tuple ds) = false := by
 match ds, h with
 | [], _ => rfl
 | [_], _ => rfl
 | [_, _], _ => rfl
theorem P7 {α : Type} {ds : List α} (h : ¬ ds.length < 3) : ∃ a b c l, ds = a :: b :: c :: l := by
 match ds, h with
 | [], h => exact absurd (by simp) h
 | [_], h => exact absurd (by simp) h
 | [_, _], h => exact absurd (by simp) h
 | a :: b :: c :: l, _ => exact ⟨a, b, c, l, rfl⟩
theorem Rf {α : Type} {ds : List α} (h : ds.length = 3) : ∃ a b c, ds = [a, b, c] := by
 match ds, h with
 | [a, b, c], _ => exact ⟨a, b, c, rfl⟩
theorem ZaI {α : Type} {ds : List α} (h : ds.length = 1) : ∃ a, ds = [a] := by
 match ds, h with
 | [a], _ => exact ⟨a, rfl⟩
theorem Tj {l : List PyData} (h : l.length ≠ 3) : LC l = false := by
 match l, h with
 | [], _ => rfl
 | [_], _ => rfl
 | [_, _], _ => rfl
 | [_, _, _], h => exact absurd rfl h
 | _ :: _ :: _ :: _ :: _, _ => rfl
theorem Sg {l : List PyData} (h : l.length ≠ 1) : FO l = false := by
 match l, h with
 | [], _ => rfl
 | [_], h => exact absurd rfl h
 | _ :: _ :: _, _ => rfl
theorem at3 {a b c d : PyData} {l : List PyData} (P : PyData → Prop) : Y3 (a :: b :: c :: d :: l) 3 P = P d := rfl
noncomputable def Sy (o : OO) : Prop := ∃ (ns : List Int) (i b : Int), 0 ≤ i ∧ o = .lst [.list (ns.map PyData.int), .int i, .int b]
noncomputable def Pen (M : Mp) (p : Addr) : Prop := ∃ o, Sy o ∧ M p = some o
theorem Pen.ZE {M : Mp} {p : Addr} {o : OO} (h : Sy o) : Pen (ZE M p o) p := ⟨o, h, Z4⟩
theorem Pen.ne {M : Mp} {p q : Addr} (h : Pen M p) (hq : M q = none) : p ≠ q := fun e => by
 obtain ⟨o, _, ho⟩ := h
 rw [e, hq] at ho
 cases ho
theorem Pen.put {M : Mp} {p q : Addr} {o : OO} (h : Pen M p) (hq : p ≠ q) : Pen (DL.ZE M q o) p := by
 obtain ⟨o', h1, h2⟩ := h
 exact ⟨o', h1, by rw [ZZ hq]; exact h2⟩
theorem Pen.del {M : Mp} {p q : Addr} (h : Pen M p) (hq : p ≠ q) : Pen (DL.VA M q) p := by
 obtain ⟨o', h1, h2⟩ := h
 exact ⟨o', h1, by rw [Yr hq]; exact h2⟩
noncomputable def ZaR (x : DV) (P : List Int → Prop) : Prop := ∃ ns, x = .dat (.list (ns.map PyData.int)) ∧ P ns
theorem Ts {x : DV} {P : List Int → Prop} (h : ZaR x P) : ∃ ns, x = .dat (.list (ns.map PyData.int)) ∧ P ns := h
theorem Vr : ∀ {as bs : List Int}, as.map PyData.int = bs.map PyData.int → as = bs
 | [], [], _ => rfl
 | [], _ :: _, h => by simp at h
 | _ :: _, [], h => by simp at h
 | a :: as, b :: bs, h => by
  rw [List.map_cons, List.map_cons, List.cons.injEq, PyData.int.injEq] at h
  rw [h.1, Vr h.2]
theorem He (bs : List Int) (P : List Int → Prop) : ZaR (.dat (.list (bs.map PyData.int))) P = P bs := propext ⟨fun ⟨cs, e, h⟩ => by
 rw [DV.dat.injEq, PyData.list.injEq] at e
 rw [Vr e]
 exact h, fun h => ⟨bs, rfl, h⟩⟩
theorem tab {l : List Int} {r : Int} (P : Int → Prop) (h0 : 0 ≤ r) (h1 : r < l.length) (hl : ∀ w ∈ l, P w) {Q : PyData → Prop} (k : ∀ w, P w → Q (.int w)) : Y3 (l.map PyData.int) r Q := by
 obtain ⟨w, hw, e⟩ := Lp h0 h1
 exact Vx e (k w (hl w hw))
noncomputable def Fr (p : Addr) (M M' : Mp) : Prop := Pen M' p ∧ ∀ a, a ≠ p → M a ≠ none → M' a = M a
theorem Fr.refl {p : Addr} {M : Mp} (h : Pen M p) : Fr p M M := ⟨h, fun _ _ _ => rfl⟩
theorem Fr.trans {p : Addr} {M M1 M2 : Mp} (h : Fr p M M1) (k : Fr p M1 M2) : Fr p M M2 := ⟨k.1, fun a ha hn => by
 have e := h.2 a ha hn
 rw [← e]
 exact k.2 a ha (by rw [e]; exact hn)⟩
theorem Fr.ZE {p : Addr} {M : Mp} {o : OO} (h : Sy o) : Fr p M (ZE M p o) := ⟨Pen.ZE h, fun a ha _ => ZZ ha⟩
theorem Fr.own {p q : Addr} {M M' : Mp} {o : OO} (h : Fr p M M') (hq : M q = some o) (hne : q ≠ p) : M' q = some o := by
 rw [h.2 q hne (by rw [hq]; exact Option.some_ne_none _)]
 exact hq
theorem Fr.new {p q : Addr} {M M' : Mp} {o : OO} (h : Fr p M M') (hq : M q = none) (hne : q ≠ p) : Fr p M (DL.ZE M' q o) := ⟨h.1.put (Ne.symm hne), fun a ha hn => by
 rw [ZZ (fun e => hn (by rw [e]; exact hq))]
 exact h.2 a ha hn⟩
noncomputable def Vg : DSp := fun xs M Φ => on2 xs fun x y => onO x fun p => onI y fun m => (0 < m ∧ m < 10 ^ 60) ∧ Pen M p ∧ ∀ r M', 0 ≤ r → r < m → Fr p M M' → Φ (.dat (.int r)) M'
theorem CC (xs : List DV) (M : Mp) (Φ : DK) : Vg xs M Φ = (on2 xs fun x y => onO x fun p => onI y fun m => (0 < m ∧ m < 10 ^ 60) ∧ Pen M p ∧ ∀ r M', 0 ≤ r → r < m → Fr p M M' → Φ (.dat (.int r)) M') := propext Iff.rfl
theorem Pen.get {M : Mp} {p : Addr} (h : Pen M p) : ∃ (ns : List Int) (i b : Int), 0 ≤ i ∧ M p = some (.lst [.list (ns.map PyData.int), .int i, .int b]) := by
 obtain ⟨o, ⟨ns, i, b, hi, eo⟩, hp⟩ := h
 exact ⟨ns, i, b, hi, by rw [hp, eo]⟩
noncomputable def Bt : DSp := fun xs M Φ => on2 xs fun x y => onO x fun p => onI y fun m => (0 < m ∧ m < 10 ^ 60) ∧ Pen M p ∧ ∀ r M', 0 ≤ r → r < m → Fr p M M' → Φ (.dat (.int r)) M'
theorem DX (xs : List DV) (M : Mp) (Φ : DK) : Bt xs M Φ = (on2 xs fun x y => onO x fun p => onI y fun m => (0 < m ∧ m < 10 ^ 60) ∧ Pen M p ∧ ∀ r M', 0 ≤ r → r < m → Fr p M M' → Φ (.dat (.int r)) M') := propext Iff.rfl
noncomputable def QU (s : Str) : Prop := (1 ≤ s.length ∧ s.length ≤ 8) ∧ ∀ c ∈ s.cps.toList, 97 ≤ c ∧ c ≤ 122
noncomputable def Nml (n : Nat) (ss : List Str) : Prop := (1 ≤ ss.length ∧ ss.length ≤ n) ∧ ∀ s ∈ ss, QU s
noncomputable def Grb (n : Int) (b : B4) : Prop := (b.x ≤ b.X ∧ b.y ≤ b.Y) ∧ (-(4 * n) ≤ b.x ∧ b.X ≤ 15 + 4 * n) ∧ (-(4 * n) ≤ b.y ∧ b.Y ≤ 15 + 4 * n)
noncomputable def Grd (bs : List B4) : Prop := (1 ≤ bs.length ∧ bs.length ≤ 6) ∧ chB bs = true ∧ ∀ b ∈ bs, Grb 5 b
noncomputable def Frm (f ox oy : Int) : Prop := (1 ≤ f ∧ f ≤ 10000000000) ∧ (-100000000000 ≤ ox ∧ ox ≤ 100000000000) ∧ (-100000000000 ≤ oy ∧ oy ≤ 100000000000)
noncomputable def Ll (f ox oy bg sp : Int) (ts ls : List Str) : OO := .dkv [(.inr (Str.ofString "by"), .int f), (.inr (Str.ofString "off"), .tuple [.int ox, .int oy]), (.inr (Str.ofString "begin"), .int bg), (.inr (Str.ofString "span"), .int sp), (.inr (Str.ofString "things"), .list (ts.map PyData.str)), (.inr (Str.ofString "lands"), .list (ls.map PyData.str))]
noncomputable def Wd (M : Mp) (q : Addr) : Prop := ∃ f ox oy bg sp ts ls, M q = some (Ll f ox oy bg sp ts ls) ∧ Frm f ox oy ∧ (0 ≤ bg ∧ bg ≤ 999999999992) ∧ (1 ≤ sp ∧ sp ≤ 9) ∧ Nml 4 ts ∧ Nml 5 ls
theorem Wd.fr {p q : Addr} {M M' : Mp} (h : Wd M q) (k : Fr p M M') (hne : q ≠ p) : Wd M' q := by
 obtain ⟨f, ox, oy, bg, sp, ts, ls, hq, hh⟩ := h
 exact ⟨f, ox, oy, bg, sp, ts, ls, k.own hq hne, hh⟩
noncomputable def Sh (x : Int) : Prop := -999999999999 ≤ x ∧ x ≤ 999999999999
noncomputable def H9 : DSp := fun xs M Φ => on2 xs fun x y => onO x fun p => onI y fun m => (1 ≤ m ∧ m ≤ 8) ∧ Pen M p ∧ ∀ (ss : List Str) (M' : Mp), ss.length = m.toNat → (∀ s ∈ ss, QU s) → Fr p M M' → Φ (.dat (.list (ss.map PyData.str))) M'
theorem UQ (xs : List DV) (M : Mp) (Φ : DK) : H9 xs M Φ = (on2 xs fun x y => onO x fun p => onI y fun m => (1 ≤ m ∧ m ≤ 8) ∧ Pen M p ∧ ∀ (ss : List Str) (M' : Mp), ss.length = m.toNat → (∀ s ∈ ss, QU s) → Fr p M M' → Φ (.dat (.list (ss.map PyData.str))) M') := propext Iff.rfl
noncomputable def K3 : DSp := fun xs M Φ => on2 xs fun x y => onO x fun p => onI y fun m => (1 ≤ m ∧ m ≤ 6) ∧ Pen M p ∧ ∀ bs M', Grd bs → Fr p M M' → Φ (.dat (.list (bs.map bD))) M'
theorem UZ (xs : List DV) (M : Mp) (Φ : DK) : K3 xs M Φ = (on2 xs fun x y => onO x fun p => onI y fun m => (1 ≤ m ∧ m ≤ 6) ∧ Pen M p ∧ ∀ bs M', Grd bs → Fr p M M' → Φ (.dat (.list (bs.map bD))) M') := propext Iff.rfl
noncomputable def JC : DSp := fun xs M Φ => on3 xs fun x y z => Rm x fun bs => onI y fun f => onP z fun ox oy => Grd bs ∧ Φ (.dat (.tuple ((bs.map (KH f ox oy)).map bD))) M
theorem Y1 (xs : List DV) (M : Mp) (Φ : DK) : JC xs M Φ = (on3 xs fun x y z => Rm x fun bs => onI y fun f => onP z fun ox oy => Grd bs ∧ Φ (.dat (.tuple ((bs.map (KH f ox oy)).map bD))) M) := propext Iff.rfl
noncomputable def VD : DSp := fun xs M Φ => on1 xs fun x => onO x fun p => Pen M p ∧ ∀ f ox oy M', Frm f ox oy → Fr p M M' → Φ (.dat (.tuple [.int f, .tuple [.int ox, .int oy]])) M'
theorem KY (xs : List DV) (M : Mp) (Φ : DK) : VD xs M Φ = (on1 xs fun x => onO x fun p => Pen M p ∧ ∀ f ox oy M', Frm f ox oy → Fr p M M' → Φ (.dat (.tuple [.int f, .tuple [.int ox, .int oy]])) M') := propext Iff.rfl
noncomputable def Lh : DSp := fun xs M Φ => on1 xs fun x => onO x fun p => Pen M p ∧ ∀ q M', Wd M' q → q ≠ p → Fr p M M' → Φ (.own q) M'
theorem GP (xs : List DV) (M : Mp) (Φ : DK) : Lh xs M Φ = (on1 xs fun x => onO x fun p => Pen M p ∧ ∀ q M', Wd M' q → q ≠ p → Fr p M M' → Φ (.own q) M') := propext Iff.rfl
noncomputable def OT : DSp := fun xs M Φ => on2 xs fun x y => onO x fun p => onO y fun q => Wd M q ∧ q ≠ p ∧ Pen M p ∧ ∀ u v M', Sh u → Sh v → Fr p M M' → Φ (.dat (.tuple [.int u, .int v])) M'
theorem Cg (xs : List DV) (M : Mp) (Φ : DK) : OT xs M Φ = (on2 xs fun x y => onO x fun p => onO y fun q => Wd M q ∧ q ≠ p ∧ Pen M p ∧ ∀ u v M', Sh u → Sh v → Fr p M M' → Φ (.dat (.tuple [.int u, .int v])) M') := propext Iff.rfl
noncomputable def NY (t : Int) (nm ou : Str) (bs : List B4) (wb : Int) : PyData := .tuple [.str (Str.ofString "land"), .int t, .str nm, .str ou, .tuple (bs.map bD), .int wb]
noncomputable def MH : DSp := fun xs M Φ => on3 xs fun x y z => onO x fun p => onO y fun q => onI z fun t => Wd M q ∧ q ≠ p ∧ Pen M p ∧
 ∀ nm ou bs f ox oy wb M', QU nm → (ou = Str.ofString "" ∨ QU ou) → Grd bs → Frm f ox oy → (0 ≤ wb ∧ wb ≤ 30000000000) → Fr p M M' → Φ (.dat (NY t nm ou (bs.map (KH f ox oy)) wb)) M'
theorem CK (xs : List DV) (M : Mp) (Φ : DK) : MH xs M Φ = (on3 xs fun x y z => onO x fun p => onO y fun q => onI z fun t => Wd M q ∧ q ≠ p ∧ Pen M p ∧ ∀ nm ou bs f ox oy wb M', QU nm → (ou = Str.ofString "" ∨ QU ou) → Grd bs → Frm f ox oy → (0 ≤ wb ∧ wb ≤ 30000000000) → Fr p M M' → Φ (.dat (NY t nm ou (bs.map (KH f ox oy)) wb)) M') := propext Iff.rfl
theorem QU.is {s : Str} (h : QU s) : Qg (.str s) = true := by
 show ((decide (1 ≤ s.length) && decide (s.length ≤ 8)) && s.cps.toList.all Ri) = true
 rw [decide_eq_true h.1.1, decide_eq_true h.1.2]
 exact List.all_eq_true.mpr fun c hc => by unfold Ri; rw [decide_eq_true (h.2 c hc).1, decide_eq_true (h.2 c hc).2]; rfl
noncomputable def Zan (s : Str) : Prop := ∃ c, s = ⟨#[c]⟩ ∧ 97 ≤ c ∧ c ≤ 122
theorem abc : (Str.ofString "abcdefghijklmnopqrstuvwxyz").cps.toList = (List.range 26).map fun k => 97 + k := by decide +kernel
theorem Su : (Str.ofString "abcdefghijklmnopqrstuvwxyz").length = 26 := by decide +kernel
theorem ZaS {i : Int} (h0 : 0 ≤ i) (h1 : i < 26) : ∃ c, L2.atI (Str.ofString "abcdefghijklmnopqrstuvwxyz").cps.toList i = some c ∧ 97 ≤ c ∧ c ≤ 122 := by
 obtain ⟨k, rfl⟩ := Int.eq_ofNat_of_zero_le h0
 refine ⟨97 + k, ?_, by omega, by omega⟩
 rw [abc]
 refine JQ ?_
 rw [List.getElem?_map, List.getElem?_range (by omega)]
 rfl
theorem Y8 : ∀ {ss : List Str}, (∀ s ∈ ss, Zan s) → ((ss.map (·.cps.toList)).flatten).length = ss.length ∧ ∀ c ∈ (ss.map (·.cps.toList)).flatten, 97 ≤ c ∧ c ≤ 122
 | [], _ => ⟨rfl, fun c hc => (nomatch hc)⟩
 | s :: ss, h => by
  obtain ⟨c, rfl, hc⟩ := h s List.mem_cons_self
  obtain ⟨i1, i2⟩ := Y8 fun t ht => h t (List.mem_cons_of_mem _ ht)
  rw [List.map_cons, List.flatten_cons, Yx]
  refine ⟨by rw [List.length_append, i1, List.length_cons]; simp; omega, fun d hd => ?_⟩
  rcases List.mem_append.mp hd with hd | hd
  ·rw [List.mem_singleton.mp hd]
   exact hc
  ·exact i2 d hd
theorem Mj {ss : List Str} (h8 : ss.length = 8) (h : ∀ s ∈ ss, Zan s) : (Txt.join (Str.ofString "") ss).length = 8 ∧ ∀ c ∈ (Txt.join (Str.ofString "") ss).cps.toList, 97 ≤ c ∧ c ≤ 122 := by
 obtain ⟨i1, i2⟩ := Y8 h
 rw [← str_len, DL.join_list]
 exact ⟨by omega, i2⟩
theorem tabS {l : List Str} {r : Int} (P : Str → Prop) (h0 : 0 ≤ r) (h1 : r < l.length) (hl : ∀ s ∈ l, P s) {Q : PyData → Prop} (k : ∀ s, P s → Q (.str s)) : Y3 (l.map PyData.str) r Q := by
 obtain ⟨n, rfl⟩ := Int.eq_ofNat_of_zero_le h0
 have hn : n < l.length := by omega
 refine Vx (d := .str l[n]) (JQ (by rw [List.getElem?_map, List.getElem?_eq_getElem hn]; rfl)) (k _ (hl _ (List.getElem_mem hn)))
theorem PL : ∀ s ∈ (["land", "drop", "free", "spot", "comes", "goes", "in", "out", "stays", "wait", "none", "a", "z"] : List Str), QU s := by
 unfold QU
 decide +kernel
noncomputable def Nms (i : Nat) (acc : List PyData) : Prop := ∃ ss : List Str, acc = ss.map PyData.str ∧ ss.length = i ∧ ∀ s ∈ ss, QU s
theorem Nms.snoc {i : Nat} {acc : List PyData} {s : Str} (h : Nms i acc) (hs : QU s) : Nms (i + 1) (acc ++ [.str s]) := by
 obtain ⟨ss, rfl, hl, ha⟩ := h
 refine ⟨ss ++ [s], by rw [List.map_append]; rfl, by rw [List.length_append, hl]; rfl, fun t ht => ?_⟩
 rcases List.mem_append.mp ht with ht | ht
 ·exact ha t ht
 ·rw [List.mem_singleton.mp ht]
  exact hs
theorem Fr.fresh {p q : Addr} {M M' : Mp} (h : Fr p M M') (hq : M' q = none) : M q = none := by
 cases e : M q with
 | none => rfl
 | some o =>
  have hn : q ≠ p := Ne.symm (h.1.ne hq)
  rw [h.own e hn] at hq
  cases hq
theorem Fr.gone {p q : Addr} {M M' : Mp} (h : Fr p M M') (hq : M q = none) (hne : q ≠ p) : Fr p M (DL.VA M' q) := ⟨h.1.del (Ne.symm hne), fun a ha hn => by
 rw [Yr (fun e => hn (by rw [e]; exact hq))]
 exact h.2 a ha hn⟩
theorem Yj : ∀ (l : List B4) (b c : B4), chB (l ++ [b, c]) = (chB (l ++ [b]) && decide (ZQ b c ≤ 1))
 | [], b, c => by
  show (decide (ZQ b c ≤ 1) && true) = (true && decide (ZQ b c ≤ 1))
  rw [Bool.and_true, Bool.true_and]
 | [a], b, c => by
  show (decide (ZQ a b ≤ 1) && (decide (ZQ b c ≤ 1) && true)) = ((decide (ZQ a b ≤ 1) && true) && decide (ZQ b c ≤ 1))
  rw [Bool.and_true, Bool.and_true]
 | a :: a' :: l, b, c => by
  have ih := Yj (a' :: l) b c
  show (decide (ZQ a a' ≤ 1) && chB (a' :: l ++ [b, c])) = ((decide (ZQ a a' ≤ 1) && chB (a' :: l ++ [b])) && decide (ZQ b c ≤ 1))
  rw [ih, Bool.and_assoc]
theorem LA {a b a' b' : Int} (h1 : a' - b ≤ 1) (h2 : a - b' ≤ 1) : gp a b a' b' ≤ 1 := by
 unfold gp
 omega
theorem Wl {a b : B4} (h1 : b.x - a.X ≤ 1) (h2 : a.x - b.X ≤ 1) (h3 : b.y - a.Y ≤ 1) (h4 : a.y - b.Y ≤ 1) : ZQ a b ≤ 1 := Int.max_le.mpr ⟨LA h1 h2, LA h3 h4⟩
theorem Zaq {A B : Prop} {p : Prop} [Decidable p] (h1 : p → A) (h2 : ¬ p → B) : if decide p = true then A else B := Zw h1 h2
theorem Ui (k : Key) (d : PyData) (ps : List (Key × PyData)) : Qv ((k, d) :: ps) k = some d := by
 unfold Qv
 rw [List.find?_cons_of_pos (by simp)]
 rfl
theorem Ju {k k' : Key} (d : PyData) (ps : List (Key × PyData)) (h : k' ≠ k) : Qv ((k', d) :: ps) k = Qv ps k := by
 unfold Qv
 rw [List.find?_cons_of_neg (by simpa using h)]
theorem JK {ps : List (Key × PyData)} {k : Key} {d : PyData} (e : Qv ps k = some d) (Q : PyData → Prop) : (Kg (some (.dkv ps)) fun ps => ∃ d, Qv ps k = some d ∧ Q d) = Q d := propext ⟨fun ⟨d', e', h⟩ => by
 rw [e, Option.some.injEq] at e'
 rw [e']
 exact h, fun h => ⟨d, e, h⟩⟩
theorem ZcR (f ox oy bg sp : Int) (ts ls : List Str) (Q : PyData → Prop) : (Kg (some (Ll f ox oy bg sp ts ls)) fun ps => ∃ d, Qv ps (.inr (Str.ofString "by")) = some d ∧ Q d) = Q (.int f) := JK (Ui _ _ _) Q
theorem Zbo (f ox oy bg sp : Int) (ts ls : List Str) (Q : PyData → Prop) : (Kg (some (Ll f ox oy bg sp ts ls)) fun ps => ∃ d, Qv ps (.inr (Str.ofString "off")) = some d ∧ Q d) = Q (.tuple [.int ox, .int oy]) := JK ((Ju _ _ (by decide +kernel)).trans (Ui _ _ _)) Q
theorem R8 (f ox oy bg sp : Int) (ts ls : List Str) (Q : PyData → Prop) : (Kg (some (Ll f ox oy bg sp ts ls)) fun ps => ∃ d, Qv ps (.inr (Str.ofString "begin")) = some d ∧ Q d) = Q (.int bg) := JK ((Ju _ _ (by decide +kernel)).trans ((Ju _ _ (by decide +kernel)).trans (Ui _ _ _))) Q
theorem Zal (f ox oy bg sp : Int) (ts ls : List Str) (Q : PyData → Prop) : (Kg (some (Ll f ox oy bg sp ts ls)) fun ps => ∃ d, Qv ps (.inr (Str.ofString "span")) = some d ∧ Q d) = Q (.int sp) := JK ((Ju _ _ (by decide +kernel)).trans ((Ju _ _ (by decide +kernel)).trans ((Ju _ _ (by decide +kernel)).trans (Ui _ _ _)))) Q
theorem Rp (f ox oy bg sp : Int) (ts ls : List Str) (Q : PyData → Prop) : (Kg (some (Ll f ox oy bg sp ts ls)) fun ps => ∃ d, Qv ps (.inr (Str.ofString "things")) = some d ∧ Q d) = Q (.list (ts.map PyData.str)) := JK ((Ju _ _ (by decide +kernel)).trans ((Ju _ _ (by decide +kernel)).trans ((Ju _ _ (by decide +kernel)).trans ((Ju _ _ (by decide +kernel)).trans (Ui _ _ _))))) Q
theorem Tz (f ox oy bg sp : Int) (ts ls : List Str) (Q : PyData → Prop) : (Kg (some (Ll f ox oy bg sp ts ls)) fun ps => ∃ d, Qv ps (.inr (Str.ofString "lands")) = some d ∧ Q d) = Q (.list (ls.map PyData.str)) := JK ((Ju _ _ (by decide +kernel)).trans ((Ju _ _ (by decide +kernel)).trans ((Ju _ _ (by decide +kernel)).trans ((Ju _ _ (by decide +kernel)).trans ((Ju _ _ (by decide +kernel)).trans (Ui _ _ _)))))) Q
theorem GX {a f lo hi : Int} (h1 : lo ≤ a) (h2 : a ≤ hi) (hf : 1 ≤ f) : lo * f ≤ a * f ∧ a * f ≤ hi * f := ⟨Int.mul_le_mul_of_nonneg_right h1 (by omega), Int.mul_le_mul_of_nonneg_right h2 (by omega)⟩
theorem Zat (n : Nat) (ls : List Str) : (List.replicate n [PyData.str (Str.ofString "")]).flatten ++ ls.map PyData.str = (List.replicate n (Str.ofString "") ++ ls).map PyData.str := by
 rw [List.map_append, List.map_replicate]
 congr 1
 induction n with
 | zero => rfl
 | succ n ih => rw [List.replicate_succ, List.flatten_cons, ih]; rfl
theorem Zae {x f r2 : Int} (h0 : 0 ≤ x) (h3 : x ≤ 3) (hf : 1 ≤ f ∧ f ≤ 10000000000) (hr : r2 = 1 ∨ r2 = 2) : 0 ≤ x * f / r2 ∧ x * f / r2 ≤ 30000000000 := by
 have e := GX h0 h3 hf.1
 rcases hr with rfl | rfl <;> omega
structure Pl (k n : Nat) (d : PyData) : Prop where
 s : d.showable = true
 nd : d.hasDict = false
 nl : ZG d = false
 dp : d.depth ≤ k
 z : cost d ≤ n
structure Pls (k n : Nat) (l : List PyData) : Prop where
 s : PyData.showableAll l = true
 nd : PyData.hasDictAll l = false
 nl : Zq l = false
 dp : PyData.depthAll l ≤ k
 z : ZS l ≤ n
structure Od (k n : Nat) (d : PyData) : Prop where
 s : d.showable = true
 m : (d.hasDict && ZG d) = false
 dp : d.depth ≤ k
 z : cost d ≤ n
theorem Pl.od {k n : Nat} {d : PyData} (h : Pl k n d) : Od k n d := ⟨h.s, by rw [h.nd]; rfl, h.dp, h.z⟩
theorem Od.le {k n k' n' : Nat} {d : PyData} (h : Od k n d) (hk : k ≤ k') (hn : n ≤ n') : Od k' n' d := ⟨h.s, h.m, Nat.le_trans h.dp hk, Nat.le_trans h.z hn⟩
theorem Pl.le {k n k' n' : Nat} {d : PyData} (h : Pl k n d) (hk : k ≤ k') (hn : n ≤ n') : Pl k' n' d := ⟨h.s, h.nd, h.nl, Nat.le_trans h.dp hk, Nat.le_trans h.z hn⟩
theorem Od.shw {k n : Nat} {d : PyData} (h : Od k n d) (hk : k ≤ 64) (hn : n ≤ 1000000) : Shw d := Shw.of h.s h.m (Nat.le_trans h.dp hk) (Nat.le_trans h.z hn)
theorem Pls.nil : Pls 0 0 [] := ⟨by simp [PyData.showableAll], by simp [PyData.hasDictAll], by simp [Zq], by simp [PyData.depthAll], by simp [ZS]⟩
theorem Pls.cons {k n k' m : Nat} {d : PyData} {l : List PyData} (h : Pl k n d) (t : Pls k' m l) : Pls (max k k') (n + 2 + m) (d :: l) :=
 ⟨by simp only [PyData.showableAll, h.s, t.s, Bool.and_self], by simp only [PyData.hasDictAll, h.nd, t.nd, Bool.or_self], by simp only [Zq, h.nl, t.nl, Bool.or_self],
  by simp only [PyData.depthAll]; have := h.dp; have := t.dp; omega, by simp only [ZS]; have := h.z; have := t.z; omega⟩
theorem Pls.le {k n k' n' : Nat} {l : List PyData} (h : Pls k n l) (hk : k ≤ k') (hn : n ≤ n') : Pls k' n' l := ⟨h.s, h.nd, h.nl, Nat.le_trans h.dp hk, Nat.le_trans h.z hn⟩
theorem Pls.all {k n m : Nat} : ∀ {l : List PyData}, l.length ≤ m → (∀ d ∈ l, Pl k n d) → Pls k ((n + 2) * m) l
 | [], _, _ => Pls.nil.le (Nat.zero_le _) (Nat.zero_le _)
 | d :: l, hm, h => by
  obtain ⟨m, rfl⟩ : ∃ m', m = m' + 1 := ⟨m - 1, by rw [List.length_cons] at hm; omega⟩
  refine (Pls.cons (h d List.mem_cons_self) (Pls.all (m := m) (by rw [List.length_cons] at hm; omega) fun e he => h e (List.mem_cons_of_mem _ he))).le (by omega) ?_
  rw [Nat.mul_succ]
  omega
theorem Pls.app {k n m : Nat} : ∀ {l l' : List PyData}, Pls k n l → Pls k m l' → Pls k (n + m) (l ++ l')
 | [], l', _, h => h.le (Nat.le_refl _) (by omega)
 | d :: l, l', g, h => by
  have gs := g.s
  have gd := g.nd
  have gl := g.nl
  have gp := g.dp
  have gz := g.z
  simp only [PyData.showableAll, Bool.and_eq_true] at gs
  simp only [PyData.hasDictAll, Bool.or_eq_false_iff] at gd
  simp only [Zq, Bool.or_eq_false_iff] at gl
  simp only [PyData.depthAll] at gp
  simp only [ZS] at gz
  have t := Pls.app (k := k) (l := l) (n := n - (cost d + 2)) ⟨gs.2, gd.2, gl.2, by omega, by omega⟩ h
  exact (Pls.cons (k := k) (d := d) ⟨gs.1, gd.1, gl.1, by omega, Nat.le_refl _⟩ t).le (by omega) (by omega)
theorem Pl.tup {k n : Nat} {l : List PyData} (h : Pls k n l) : Pl (k + 1) (n + 3) (.tuple l) :=
 ⟨by simp only [PyData.showable.eq_6, h.s], by simp only [PyData.hasDict, h.nd], by simp only [ZG, h.nl], by simp only [PyData.depth]; have := h.dp; omega, by simp only [cost]; have := h.z; omega⟩
theorem Od.lst {k n : Nat} {l : List PyData} (h : Pls k n l) : Od (k + 1) (n + 2) (.list l) :=
 ⟨by simp only [PyData.showable, h.s], by simp only [PyData.hasDict, h.nd]; rfl, by simp only [PyData.depth]; have := h.dp; omega, by simp only [cost]; have := h.z; omega⟩
theorem Od.dct : Od 1 2 (.dict []) := ⟨by simp [PyData.showable, PyData.showableKv], by simp [ZG, QL], by simp [PyData.depth, PyData.depthKv], by simp [cost, V6]⟩
theorem Od.tup {k n a b : Nat} {e : PyData} : ∀ {l l' : List PyData}, Pls k a l → Od k n e → Pls k b l' → PyData.showableAll (l ++ e :: l') = true ∧ PyData.hasDictAll (l ++ e :: l') = e.hasDict ∧ Zq (l ++ e :: l') = ZG e ∧ PyData.depthAll (l ++ e :: l') ≤ k ∧ ZS (l ++ e :: l') ≤ a + (n + 2 + b)
 | [], l', g, h, g' => by
  have := g'.dp
  have := h.dp
  have := g'.z
  have := h.z
  refine ⟨?_, ?_, ?_, ?_, ?_⟩
  ·simp only [List.nil_append, PyData.showableAll, h.s, g'.s, Bool.and_self]
  ·simp only [List.nil_append, PyData.hasDictAll, g'.nd, Bool.or_false]
  ·simp only [List.nil_append, Zq, g'.nl, Bool.or_false]
  ·simp only [List.nil_append, PyData.depthAll]; omega
  ·simp only [List.nil_append, ZS]; omega
 | d :: l, l', g, h, g' => by
  have gs := g.s
  have gd := g.nd
  have gl := g.nl
  have gp := g.dp
  have gz := g.z
  simp only [PyData.showableAll, Bool.and_eq_true] at gs
  simp only [PyData.hasDictAll, Bool.or_eq_false_iff] at gd
  simp only [Zq, Bool.or_eq_false_iff] at gl
  simp only [PyData.depthAll] at gp
  simp only [ZS] at gz
  obtain ⟨t1, t2, t3, t4, t5⟩ := Od.tup (l := l) (a := a - (cost d + 2)) ⟨gs.2, gd.2, gl.2, by omega, by omega⟩ h g'
  refine ⟨?_, ?_, ?_, ?_, ?_⟩
  ·simp only [List.cons_append, PyData.showableAll, gs.1, t1, Bool.and_self]
  ·simp only [List.cons_append, PyData.hasDictAll, gd.1, t2, Bool.false_or]
  ·simp only [List.cons_append, Zq, gl.1, t3, Bool.false_or]
  ·simp only [List.cons_append, PyData.depthAll]; omega
  ·simp only [List.cons_append, ZS]; omega
theorem Od.put {k n a b : Nat} {e : PyData} {l l' : List PyData} (g : Pls k a l) (h : Od k n e) (g' : Pls k b l') : Od (k + 1) (a + (n + 2 + b) + 3) (.tuple (l ++ e :: l')) := by
 obtain ⟨t1, t2, t3, t4, t5⟩ := Od.tup g h g'
 exact ⟨by simp only [PyData.showable.eq_6, t1], by simp only [PyData.hasDict, ZG, t2, t3, h.m], by simp only [PyData.depth]; omega, by simp only [cost]; omega⟩
theorem Rx {i : Int} (h : -(10 ^ 60) ≤ i ∧ i ≤ 10 ^ 60) : Pl 0 1921 (.int i) := ⟨Mid.show ⟨by omega, by omega⟩, by simp [PyData.hasDict], by simp [ZG], by simp [PyData.depth], by simp [cost]⟩
theorem pBl (b : Bool) : Pl 0 5 (.bool b) := ⟨by simp [PyData.showable], by simp [PyData.hasDict], by simp [ZG], by simp [PyData.depth], by simp [cost]⟩
theorem ZcH : Pl 0 4 .none := ⟨by simp [PyData.showable], by simp [PyData.hasDict], by simp [ZG], by simp [PyData.depth], by simp [cost]⟩
theorem ZaG {s : Str} (h : ∀ c ∈ s.cps.toList, c < 16 ^ 8) {n : Nat} (hn : s.length ≤ n) : Pl 0 (10 * n + 2) (.str s) := ⟨by simp [PyData.showable], by simp [PyData.hasDict], by simp [ZG], by simp [PyData.depth], by
 simp only [cost]
 have := StrLaws.reprText_len s h
 omega⟩
theorem B3 (t : String) : ∀ c ∈ (Str.ofString t).cps.toList, c < 16 ^ 8 := by
 intro c hc
 rw [PySem.Str.ofString_eq_toList] at hc
 simp at hc
 obtain ⟨a, _, rfl⟩ := hc
 have h := a.valid
 show a.val.toNat < 16 ^ 8
 unfold UInt32.isValidChar Nat.isValidChar at h
 omega
theorem Pw (t : String) {n : Nat} (hn : (Str.ofString t).length ≤ n) : Pl 0 (10 * n + 2) (.str (Str.ofString t)) := ZaG (B3 t) hn
theorem pNm {s : Str} (h : QU s) : Pl 0 82 (.str s) := ZaG (n := 8) (fun c hc => by have := h.2 c hc; omega) h.1.2
theorem pSp {x y : Int} (hx : Sh x) (hy : Sh y) : Pl 1 3849 (.tuple [.int x, .int y]) :=
 (Pl.tup (Pls.cons (Rx (by unfold Sh at hx; omega)) (Pls.cons (Rx (by unfold Sh at hy; omega)) Pls.nil))).le (by decide) (by decide)
theorem fc {Q : PyData → Prop} {a : PyData} {l : List PyData} (h : Q a) (k : ∀ d ∈ l, Q d) : ∀ d ∈ a :: l, Q d := fun d hd => by
 rcases List.mem_cons.mp hd with rfl | hd
 ·exact h
 ·exact k d hd
theorem fn {Q : PyData → Prop} : ∀ d ∈ ([] : List PyData), Q d := fun _ h => (nomatch h)
structure Thg (d : PyData) : Prop where
 t : Kf d = true
 o : Od 20 90000 d
theorem Od.th {k n : Nat} {d : PyData} (h : Od k n d) (t : Kf d = true) (hk : k ≤ 20 := by decide) (hn : n ≤ 90000 := by decide) : Thg d := ⟨t, h.le hk hn⟩
theorem Pl.th {k n : Nat} {d : PyData} (h : Pl k n d) (t : Kf d = true) (hk : k ≤ 20 := by decide) (hn : n ≤ 90000 := by decide) : Thg d := h.od.th t hk hn
noncomputable def YK (bs : List B4) : Prop := (1 ≤ bs.length ∧ bs.length ≤ 6) ∧ chB bs = true ∧ ∀ b ∈ bs, okB b = true ∧ (Sh b.x ∧ Sh b.y) ∧ (Sh b.X ∧ Sh b.Y)
noncomputable def OF (w : Str) (l : List PyData) : Prop := w = Str.ofString "land" ∧ ∃ (ou : Str) (bs : List B4) (wb : Int), l = [.str ou, .tuple (bs.map bD), .int wb] ∧ (ou = Str.ofString "" ∨ QU ou) ∧ YK bs ∧ (0 ≤ wb ∧ wb ≤ 30000000000)
noncomputable def OS (w : Str) (l : List PyData) : Prop := w = Str.ofString "spot" ∧ ∃ u v : Int, l = [.tuple [.int u, .int v]] ∧ Sh u ∧ Sh v
noncomputable def ME (w : Str) (l : List PyData) : Prop := (w = Str.ofString "drop" ∨ w = Str.ofString "free") ∧ l = []
noncomputable def Tel (ds : List PyData) : Prop := ∃ (w : Str) (t : Int) (nm : Str) (l : List PyData), ds = .str w :: .int t :: .str nm :: l ∧ (0 ≤ t ∧ t ≤ 1000000000000) ∧ QU nm ∧ (OF w l ∨ OS w l ∨ ME w l)
noncomputable def Gw (M M' : Mp) : Prop := ∀ a, M a ≠ none → M' a = M a
theorem Gw.refl {M : Mp} : Gw M M := fun _ _ => rfl
theorem Gw.trans {M M1 M2 : Mp} (h : Gw M M1) (k : Gw M1 M2) : Gw M M2 := fun a ha => by
 rw [k a (by rw [h a ha]; exact ha), h a ha]
theorem Gw.new {M M' : Mp} {q : Addr} {o : OO} (h : Gw M M') (hq : M' q = none) : Gw M (ZE M' q o) := fun a ha => by
 have e := h a ha
 rw [ZZ (fun z => ha (by rw [← e, z]; exact hq)), e]
theorem Gw.pen {M M' : Mp} {p : Addr} (h : Gw M M') (hp : Pen M p) : Pen M' p := by
 obtain ⟨o, h1, h2⟩ := hp
 exact ⟨o, h1, by rw [h p (by rw [h2]; exact Option.some_ne_none _)]; exact h2⟩
theorem Gw.wd {M M' : Mp} {q : Addr} (h : Gw M M') (hw : Wd M q) : Wd M' q := by
 obtain ⟨f, ox, oy, bg, sp, ts, ls, hq, hh⟩ := hw
 exact ⟨f, ox, oy, bg, sp, ts, ls, by rw [h q (by rw [hq]; exact Option.some_ne_none _)]; exact hq, hh⟩
noncomputable def Knd (w : Str) (l : List PyData) : Prop := OF w l ∨ OS w l ∨ ME w l
theorem Ol {s : Str} (h : QU s) : Kf (.str s) = true := decide_eq_true (by have := h.1; omega)
theorem XH {bs : List B4} (hs : YK bs) : Pl 3 46245 (.tuple (bs.map bD)) := by
 refine (Pl.tup (Pls.all (k := 2) (n := 7705) (m := 6) (by rw [List.length_map]; exact hs.1.2) fun d hd => ?_)).le (by decide) (by decide)
 obtain ⟨c, hc, rfl⟩ := List.mem_map.mp hd
 have hc := hs.2.2 c hc
 exact (Pl.tup (Pls.cons (pSp hc.2.1.1 hc.2.1.2) (Pls.cons (pSp hc.2.2.1 hc.2.2.2) Pls.nil))).le (by decide) (by decide)
theorem Lz {w : Str} {l : List PyData} (h : Knd w l) : Pls 19 60000 l ∧ l.all Kf = true ∧ l.length ≤ 3 ∧ Pl 0 102 (.str w) ∧ Kf (.str w) = true := by
 rcases h with ⟨rfl, ou, bs, wb, rfl, ho, hs, hw⟩ | ⟨rfl, u, v, rfl, hu, hv⟩ | ⟨hw, rfl⟩
 ·have po : Pl 0 102 (.str ou) ∧ Kf (.str ou) = true := by
   rcases ho with rfl | ho
   ·exact ⟨Pw "" (n := 10) (by decide +kernel), by decide +kernel⟩
   ·exact ⟨(pNm ho).le (by decide) (by decide), Ol ho⟩
  refine ⟨(Pls.cons po.1 (Pls.cons (XH hs) (Pls.cons (Rx (by omega)) Pls.nil))).le (by decide) (by decide), ?_, by simp, Pw "land" (n := 10) (by decide +kernel), by decide +kernel⟩
  show (Kf (.str ou) && _) = true
  rw [po.2]
  rfl
 ·exact ⟨(Pls.cons (pSp hu hv) Pls.nil).le (by decide) (by decide), rfl, by simp, Pw "spot" (n := 10) (by decide +kernel), by decide +kernel⟩
 ·refine ⟨Pls.nil.le (by decide) (by decide), rfl, by simp, ?_⟩
  rcases hw with rfl | rfl
  ·exact ⟨Pw "drop" (n := 10) (by decide +kernel), by decide +kernel⟩
  ·exact ⟨Pw "free" (n := 10) (by decide +kernel), by decide +kernel⟩
theorem ZbS : isS (.str (Str.ofString "land")) (Str.ofString "land") = true := by decide +kernel
theorem Zce : isS (.str (Str.ofString "spot")) (Str.ofString "land") = false := by decide +kernel
theorem ZbG : isS (.str (Str.ofString "spot")) (Str.ofString "spot") = true := by decide +kernel
theorem Zax : isS (.str (Str.ofString "drop")) (Str.ofString "land") = false ∧ isS (.str (Str.ofString "drop")) (Str.ofString "spot") = false := by decide +kernel
theorem Zao : isS (.str (Str.ofString "free")) (Str.ofString "land") = false ∧ isS (.str (Str.ofString "free")) (Str.ofString "spot") = false := by decide +kernel
theorem ZcC : isS (.str (Str.ofString "land")) (Str.ofString "spot") = false ∧ isS (.str (Str.ofString "land")) (Str.ofString "drop") = false ∧ isS (.str (Str.ofString "land")) (Str.ofString "free") = false := by decide +kernel
theorem Zcr : isS (.str (Str.ofString "spot")) (Str.ofString "drop") = false ∧ isS (.str (Str.ofString "spot")) (Str.ofString "free") = false := by decide +kernel
theorem Zcw : isS (.str (Str.ofString "drop")) (Str.ofString "drop") = true ∧ isS (.str (Str.ofString "free")) (Str.ofString "drop") = false ∧ isS (.str (Str.ofString "free")) (Str.ofString "free") = true := by decide +kernel
theorem OJ (l : List PyData) : JJ (.str (Str.ofString "land")) l = LC l := by unfold JJ; rw [if_pos ZbS]
theorem Pd (l : List PyData) : JJ (.str (Str.ofString "spot")) l = FO l := by unfold JJ; rw [Zce, if_neg (by decide), if_pos ZbG]
theorem Zaa (a : PyData) (l : List PyData) : JJ (.str (Str.ofString "drop")) (a :: l) = false := by unfold JJ; rw [Zax.1, Zax.2]; rfl
theorem TC (a : PyData) (l : List PyData) : JJ (.str (Str.ofString "free")) (a :: l) = false := by unfold JJ; rw [Zao.1, Zao.2]; rfl
theorem P6 {w t n : PyData} {l : List PyData} (h : JJ w l = false) : Z7 (.tuple (w :: t :: n :: l)) = false := by
 show (_ && (_ && JJ w l)) = false
 rw [h, Bool.and_false, Bool.and_false]
theorem Rv {w t n : PyData} {l : List PyData} (h : Vm t = false) : Z7 (.tuple (w :: t :: n :: l)) = false := by
 show (Vm t && _) = false
 rw [h, Bool.false_and]
theorem Rg {w t n : PyData} {l : List PyData} (h : Qg n = false) : Z7 (.tuple (w :: t :: n :: l)) = false := by
 show (_ && (Qg n && _)) = false
 rw [h, Bool.false_and, Bool.and_false]
theorem Uw {x : Int} (h : Sh x) : Zp (.int x) = true := by
 show (decide (-999999999999 ≤ x) && decide (x ≤ 999999999999)) = true
 rw [decide_eq_true h.1, decide_eq_true h.2]
 rfl
theorem Ym {bs : List B4} (h : YK bs) : QG (.tuple (bs.map bD)) = true := by
 show ((decide (1 ≤ (bs.map bD).length) && decide ((bs.map bD).length ≤ 6)) && ((bs.map bD).all QO && chB ((bs.map bD).map toB))) = true
 rw [Vy, h.2.1, List.length_map, decide_eq_true h.1.1, decide_eq_true h.1.2, List.all_eq_true.mpr fun d hd => ?_]
 ·rfl
 ·obtain ⟨b, hb, rfl⟩ := List.mem_map.mp hd
  obtain ⟨h1, ⟨h2, h3⟩, h4, h5⟩ := h.2.2 b hb
  show ((Zp (.int b.x) && Zp (.int b.y)) && ((Zp (.int b.X) && Zp (.int b.Y)) && okB b)) = true
  rw [Uw h2, Uw h3, Uw h4, Uw h5, h1]
  rfl
theorem ND {w : Str} {l : List PyData} (h : Knd w l) : JJ (.str w) l = true := by
 rcases h with ⟨rfl, ou, bs, wb, rfl, ho, hs, hw⟩ | ⟨rfl, u, v, rfl, hu, hv⟩ | ⟨hw, rfl⟩
 ·rw [OJ]
  show ((isS (.str ou) (Str.ofString "") || Qg (.str ou)) && (QG (.tuple (bs.map bD)) && (decide (0 ≤ wb) && decide (wb ≤ 999999999999)))) = true
  rw [Ym hs, decide_eq_true hw.1, decide_eq_true (show wb ≤ 999999999999 by omega)]
  rcases ho with rfl | ho
  ·decide +kernel
  ·rw [ho.is, Bool.or_true]
   rfl
 ·rw [Pd]
  show (Zp (.int u) && Zp (.int v)) = true
  rw [Uw hu, Uw hv]
  rfl
 ·rcases hw with rfl | rfl <;> decide +kernel
theorem TJ {D : List PyData} (h : Tel D) : Z7 (.tuple D) = true ∧ S0 (.tuple D) = true := by
 obtain ⟨w, t, nm, l, rfl, ht, hn, hk⟩ := h
 obtain ⟨_, lt, _, _, wt⟩ := Lz hk
 constructor
 ·show ((decide (0 ≤ t) && decide (t ≤ 1000000000000)) && (Qg (.str nm) && JJ (.str w) l)) = true
  rw [decide_eq_true ht.1, decide_eq_true ht.2, hn.is, ND hk]
  rfl
 ·show (Kf (.str w) && (true && (Kf (.str nm) && l.all Kf))) = true
  rw [wt, Ol hn, lt]
  rfl
theorem Fg {a b a' b' f o : Int} (hf : 1 ≤ f) (h : gp a b a' b' ≤ 1) : gp (a * f + o) (b * f + f - 1 + o) (a' * f + o) (b' * f + f - 1 + o) ≤ 1 := by
 have h1 : a' - b ≤ 1 := by unfold gp at h; omega
 have h2 : a - b' ≤ 1 := by unfold gp at h; omega
 have e1 : a' * f ≤ (b + 1) * f := Int.mul_le_mul_of_nonneg_right (by omega) (by omega)
 have e2 : a * f ≤ (b' + 1) * f := Int.mul_le_mul_of_nonneg_right (by omega) (by omega)
 rw [Int.add_mul, Int.one_mul] at e1 e2
 exact LA (by omega) (by omega)
theorem Ez {f ox oy : Int} (hf : 1 ≤ f) : ∀ bs : List B4, chB bs = true → chB (bs.map (KH f ox oy)) = true
 | [], _ => rfl
 | [_], _ => rfl
 | a :: b :: l, h => by
  have h' : decide (ZQ a b ≤ 1) = true ∧ chB (b :: l) = true := Bool.and_eq_true_iff.mp h
  show (decide (ZQ (KH f ox oy a) (KH f ox oy b) ≤ 1) && chB ((b :: l).map (KH f ox oy))) = true
  rw [Ez hf (b :: l) h'.2]
  have k := Int.max_le.mp (of_decide_eq_true h'.1)
  rw [decide_eq_true (show ZQ (KH f ox oy a) (KH f ox oy b) ≤ 1 from Int.max_le.mpr ⟨Fg hf k.1, Fg hf k.2⟩)]
  rfl
theorem HV {bs : List B4} {f ox oy : Int} (h : Grd bs) (hf : Frm f ox oy) : YK (bs.map (KH f ox oy)) := by
 obtain ⟨⟨f1, f2⟩, hx, hy⟩ := hf
 refine ⟨by rw [List.length_map]; exact h.1, Ez f1 bs h.2.1, fun c hc => ?_⟩
 obtain ⟨b, hb, rfl⟩ := List.mem_map.mp hc
 obtain ⟨⟨g1, g2⟩, ⟨g3, g4⟩, g5, g6⟩ := h.2.2 b hb
 have a1 := GX (a := b.x) (lo := -20) (hi := 35) (by omega) (by omega) f1
 have a2 := GX (a := b.y) (lo := -20) (hi := 35) (by omega) (by omega) f1
 have a3 := GX (a := b.X) (lo := -20) (hi := 35) (by omega) (by omega) f1
 have a4 := GX (a := b.Y) (lo := -20) (hi := 35) (by omega) (by omega) f1
 have c1 : b.x * f ≤ b.X * f := Int.mul_le_mul_of_nonneg_right g1 (by omega)
 have c2 : b.y * f ≤ b.Y * f := Int.mul_le_mul_of_nonneg_right g2 (by omega)
 unfold KH okB Sh
 dsimp only
 refine ⟨?_, ⟨⟨by omega, by omega⟩, by omega, by omega⟩, ⟨by omega, by omega⟩, by omega, by omega⟩
 rw [decide_eq_true (show b.x * f + ox ≤ b.X * f + f - 1 + ox by omega), decide_eq_true (show b.y * f + oy ≤ b.Y * f + f - 1 + oy by omega)]
 rfl
theorem Wd.put {M : Mp} {q g : Addr} {o : OO} (h : Wd M q) (hq : q ≠ g) : Wd (DL.ZE M g o) q := by
 obtain ⟨f, ox, oy, bg, sp, ts, ls, h1, hh⟩ := h
 exact ⟨f, ox, oy, bg, sp, ts, ls, by rw [ZZ hq]; exact h1, hh⟩
theorem Wd.del {M : Mp} {q g : Addr} (h : Wd M q) (hq : q ≠ g) : Wd (DL.VA M g) q := by
 obtain ⟨f, ox, oy, bg, sp, ts, ls, h1, hh⟩ := h
 exact ⟨f, ox, oy, bg, sp, ts, ls, by rw [Yr hq]; exact h1, hh⟩
inductive Tas (T : DV → List Addr → PyData → Prop) : List DV → List Addr → List PyData → Prop
 | nil : Tas T [] [] []
 | cons {x : DV} {xs : List DV} {as bs : List Addr} {d : PyData} {ds : List PyData} : T x as d → Tas T xs bs ds → (∀ a ∈ as, a ∉ bs) → Tas T (x :: xs) (as ++ bs) (d :: ds)
noncomputable def Ta (M : Mp) : Nat → DV → List Addr → PyData → Prop
 | 0, _, _, _ => False
 | n + 1, x, as, d => (∃ i, x = .dat (.int i) ∧ as = [] ∧ d = .int i) ∨ (∃ ds, x = .dat (.tuple ds) ∧ as = [] ∧ d = .tuple ds ∧ Tas (Ta M n) (ds.map DV.dat) [] ds) ∨
  (∃ xs ds, x = .mix xs ∧ d = .tuple ds ∧ Tas (Ta M n) xs as ds) ∨ ∃ a xs bs ds, x = .own a ∧ as = a :: bs ∧ d = .list ds ∧ M a = some (.lsv 0 xs) ∧ a ∉ bs ∧ xs.length < sizeLine ∧ Tas (Ta M n) xs bs ds
theorem Tas.imp {T U : DV → List Addr → PyData → Prop} {xs : List DV} {as : List Addr} {ds : List PyData} (h : Tas T xs as ds) (k : ∀ x bs d, (∀ a ∈ bs, a ∈ as) → T x bs d → U x bs d) : Tas U xs as ds := by
 induction h with
 | nil => exact .nil
 | @cons x xs as bs d ds h1 h2 h3 ih => exact .cons (k _ _ _ (fun a ha => List.mem_append_left _ ha) h1) (ih fun x cs d hc => k x cs d fun a ha => List.mem_append_right _ (hc a ha)) h3
theorem Tas.snoc {T : DV → List Addr → PyData → Prop} {xs : List DV} {as : List Addr} {ds : List PyData} (h : Tas T xs as ds) {x : DV} {bs : List Addr} {d : PyData} (hx : T x bs d) (hd : ∀ a ∈ as, a ∉ bs) : Tas T (xs ++ [x]) (as ++ bs) (ds ++ [d]) := by
 induction h with
 | nil =>
  have e : bs = bs ++ [] := (List.append_nil bs).symm
  rw [List.nil_append, List.nil_append, List.nil_append, e]
  exact .cons hx .nil fun _ _ => List.not_mem_nil
 | @cons y ys cs es c cd h1 h2 h3 ih =>
  rw [List.append_assoc]
  refine .cons h1 (ih fun a ha => hd a (List.mem_append_right _ ha)) fun a ha hb => ?_
  rcases List.mem_append.mp hb with hb | hb
  ·exact h3 a ha hb
  ·exact hd a (List.mem_append_left _ ha) hb
theorem Tas.len {T : DV → List Addr → PyData → Prop} {xs : List DV} {as : List Addr} {ds : List PyData} (h : Tas T xs as ds) : xs.length = ds.length := by
 induction h with
 | nil => rfl
 | cons _ _ _ ih => rw [List.length_cons, List.length_cons, ih]
theorem Ta.up {M : Mp} : ∀ {n : Nat} {x : DV} {as : List Addr} {d : PyData}, Ta M n x as d → Ta M (n + 1) x as d
 | 0, _, _, _, h => h.elim
 | n + 1, x, as, d, h => by
  rcases h with h | ⟨ds, h1, h2, h3, h4⟩ | ⟨xs, ds, h1, h2, h3⟩ | ⟨a, xs, bs, ds, h1, h2, h3, h4, h5, h6, h7⟩
  ·exact .inl h
  ·exact .inr (.inl ⟨ds, h1, h2, h3, h4.imp fun _ _ _ _ q => Ta.up q⟩)
  ·exact .inr (.inr (.inl ⟨xs, ds, h1, h2, h3.imp fun _ _ _ _ q => Ta.up q⟩))
  ·exact .inr (.inr (.inr ⟨a, xs, bs, ds, h1, h2, h3, h4, h5, h6, h7.imp fun _ _ _ _ q => Ta.up q⟩))
theorem Ta.congr {M M' : Mp} : ∀ {n : Nat} {x : DV} {as : List Addr} {d : PyData}, Ta M n x as d → (∀ a ∈ as, M' a = M a) → Ta M' n x as d
 | 0, _, _, _, h, _ => h.elim
 | n + 1, x, as, d, h, k => by
  rcases h with h | ⟨ds, h1, h2, h3, h4⟩ | ⟨xs, ds, h1, h2, h3⟩ | ⟨a, xs, bs, ds, h1, h2, h3, h4, h5, h6, h7⟩
  ·exact .inl h
  ·exact .inr (.inl ⟨ds, h1, h2, h3, h4.imp fun _ _ _ hs q => Ta.congr q fun a ha => (nomatch hs a ha)⟩)
  ·exact .inr (.inr (.inl ⟨xs, ds, h1, h2, h3.imp fun _ _ _ hs q => Ta.congr q fun a ha => k a (hs a ha)⟩))
  ·subst h2
   exact .inr (.inr (.inr ⟨a, xs, bs, ds, h1, rfl, h3, by rw [k a List.mem_cons_self]; exact h4, h5, h6, h7.imp fun _ _ _ hs q => Ta.congr q fun b hb => k b (List.mem_cons_of_mem _ (hs b hb))⟩))
theorem Tas.asd {M : Mp} {n : Nat} (k : ∀ x as d, Ta M n x as d → AsD M x d ∧ ∀ a ∈ as, M a ≠ none) {xs : List DV} {as : List Addr} {ds : List PyData} (h : Tas (Ta M n) xs as ds) : U0 M xs ds ∧ ∀ a ∈ as, M a ≠ none := by
 induction h with
 | nil => exact ⟨.nil, fun _ h => (nomatch h)⟩
 | cons h1 _ _ ih =>
  obtain ⟨a1, a2⟩ := k _ _ _ h1
  refine ⟨.cons a1 ih.1, fun a ha => ?_⟩
  rcases List.mem_append.mp ha with ha | ha
  ·exact a2 a ha
  ·exact ih.2 a ha
theorem Ta.asd {M : Mp} : ∀ {n : Nat} {x : DV} {as : List Addr} {d : PyData}, Ta M n x as d → AsD M x d ∧ ∀ a ∈ as, M a ≠ none
 | 0, _, _, _, h => h.elim
 | n + 1, x, as, d, h => by
  rcases h with ⟨i, rfl, rfl, rfl⟩ | ⟨ds, rfl, rfl, rfl, h4⟩ | ⟨xs, ds, rfl, rfl, h3⟩ | ⟨a, xs, bs, ds, rfl, rfl, rfl, h4, h5, h6, h7⟩
  ·exact ⟨.dat _, fun _ h => (nomatch h)⟩
  ·exact ⟨.dat _, fun _ h => (nomatch h)⟩
  ·obtain ⟨a1, a2⟩ := Tas.asd (fun x as d q => Ta.asd q) h3
   exact ⟨.mix a1, a2⟩
  ·obtain ⟨a1, a2⟩ := Tas.asd (fun x as d q => Ta.asd q) h7
   refine ⟨.lsv h4 a1, fun b hb => ?_⟩
   rcases List.mem_cons.mp hb with rfl | hb
   ·rw [h4]; exact Option.some_ne_none _
   ·exact a2 b hb
theorem Tas.own {M : Mp} {n : Nat} {xs : List DV} {as : List Addr} {ds : List PyData} (h : Tas (Ta M n) xs as ds) : ∀ a ∈ as, M a ≠ none := (Tas.asd (fun _ _ _ q => Ta.asd q) h).2
theorem Ta.fr {M M' : Mp} {p : Addr} {n : Nat} {x : DV} {as : List Addr} {d : PyData} (h : Ta M n x as d) (k : Fr p M M') (hp : p ∉ as) : Ta M' n x as d :=
 h.congr fun a ha => k.2 a (fun e => hp (by rw [← e]; exact ha)) (h.asd.2 a ha)
theorem Ta.ZE {M : Mp} {q : Addr} {o : OO} {n : Nat} {x : DV} {as : List Addr} {d : PyData} (h : Ta M n x as d) (hq : M q = none) : Ta (ZE M q o) n x as d :=
 h.congr fun a ha => ZZ fun e => h.asd.2 a ha (by rw [e]; exact hq)
noncomputable def sqD (k : Bool) (ds : List PyData) : PyData := if k = true then .list ds else .tuple ds
noncomputable def HC (d : PyData) (x y : Int) : Prop := ∃ k, d = sqD k [.int x, .int y]
noncomputable def HB (d : PyData) (b : B4) : Prop := ∃ k c1 c2, d = sqD k [c1, c2] ∧ HC c1 b.x b.y ∧ HC c2 b.X b.Y
inductive HBs : List PyData → List B4 → Prop
 | nil : HBs [] []
 | cons {d : PyData} {b : B4} {ds : List PyData} {bs : List B4} : HB d b → HBs ds bs → HBs (d :: ds) (b :: bs)
theorem HBs.len {ds : List PyData} {bs : List B4} (h : HBs ds bs) : ds.length = bs.length := by
 induction h with
 | nil => rfl
 | cons _ _ ih => rw [List.length_cons, List.length_cons, ih]
theorem HBs.get : ∀ {ds : List PyData} {bs : List B4} {i : Nat} {d : PyData}, HBs ds bs → ds[i]? = some d → ∃ b, bs[i]? = some b ∧ HB d b
 | _, _, _, _, .nil, e => by simp at e
 | _, _, 0, _, .cons h _, e => by simp at e; subst e; exact ⟨_, rfl, h⟩
 | _, _, i + 1, d, .cons _ h, e => by
  obtain ⟨b, h1, h2⟩ := HBs.get (i := i) (d := d) h (by simpa using e)
  exact ⟨b, by simpa using h1, h2⟩
theorem HBs.snoc {ds : List PyData} {bs : List B4} {d : PyData} {b : B4} (h : HBs ds bs) (k : HB d b) : HBs (ds ++ [d]) (bs ++ [b]) := by
 induction h with
 | nil => exact .cons k .nil
 | cons h1 _ ih => exact .cons h1 ih
theorem HBs.self : ∀ bs : List B4, HBs (bs.map bD) bs
 | [] => .nil
 | b :: bs => .cons ⟨false, _, _, rfl, ⟨false, rfl⟩, ⟨false, rfl⟩⟩ (HBs.self bs)
noncomputable def HS (d : PyData) (bs : List B4) : Prop := ∃ k ds, d = sqD k ds ∧ HBs ds bs
structure Ql (k n : Nat) (d : PyData) : Prop where
 s : d.showable = true
 nd : d.hasDict = false
 dp : d.depth ≤ k
 z : cost d ≤ n
structure Qls (k n : Nat) (l : List PyData) : Prop where
 s : PyData.showableAll l = true
 nd : PyData.hasDictAll l = false
 dp : PyData.depthAll l ≤ k
 z : ZS l ≤ n
theorem Ql.shw {k n : Nat} {d : PyData} (h : Ql k n d) (hk : k ≤ 64) (hn : n ≤ 1000000) : Shw d := Shw.of h.s (by rw [h.nd]; rfl) (Nat.le_trans h.dp hk) (Nat.le_trans h.z hn)
theorem Qls.nil : Qls 0 0 [] := ⟨by simp [PyData.showableAll], by simp [PyData.hasDictAll], by simp [PyData.depthAll], by simp [ZS]⟩
theorem Qls.cons {k n m : Nat} {d : PyData} {l : List PyData} (h : Ql k n d) (t : Qls k m l) : Qls k (n + 2 + m) (d :: l) :=
 ⟨by simp only [PyData.showableAll, h.s, t.s, Bool.and_self], by simp only [PyData.hasDictAll, h.nd, t.nd, Bool.or_self], by simp only [PyData.depthAll]; have := h.dp; have := t.dp; omega, by simp only [ZS]; have := h.z; have := t.z; omega⟩
theorem Qls.le {k n k' n' : Nat} {l : List PyData} (h : Qls k n l) (hk : k ≤ k') (hn : n ≤ n') : Qls k' n' l := ⟨h.s, h.nd, Nat.le_trans h.dp hk, Nat.le_trans h.z hn⟩
theorem Ql.sq {k n : Nat} {l : List PyData} (h : Qls k n l) (c : Bool) : Ql (k + 1) (n + 3) (sqD c l) := by
 cases c
 ·exact ⟨by simp only [sqD, Bool.false_eq_true, if_false, PyData.showable.eq_6, h.s], by simp only [sqD, Bool.false_eq_true, if_false, PyData.hasDict, h.nd], by simp only [sqD, Bool.false_eq_true, if_false, PyData.depth]; have := h.dp; omega, by simp only [sqD, Bool.false_eq_true, if_false, cost]; have := h.z; omega⟩
 ·exact ⟨by simp only [sqD, if_true, PyData.showable, h.s], by simp only [sqD, if_true, PyData.hasDict, h.nd], by simp only [sqD, if_true, PyData.depth]; have := h.dp; omega, by simp only [sqD, if_true, cost]; have := h.z; omega⟩
theorem T7 {i : Int} (h : Sh i) : Ql 0 1921 (.int i) := by
 have p := Rx (i := i) (by unfold Sh at h; omega)
 exact ⟨p.s, p.nd, p.dp, p.z⟩
theorem qC {d : PyData} {x y : Int} (h : HC d x y) (hx : Sh x) (hy : Sh y) : Ql 1 3849 d := by
 obtain ⟨k, rfl⟩ := h
 exact Ql.sq ((Qls.cons (T7 hx) (Qls.cons (T7 hy) Qls.nil)).le (Nat.le_refl _) (by omega)) k
theorem qB {d : PyData} {b : B4} (h : HB d b) (hb : (Sh b.x ∧ Sh b.y) ∧ (Sh b.X ∧ Sh b.Y)) : Ql 2 7705 d := by
 obtain ⟨k, c1, c2, rfl, h1, h2⟩ := h
 exact Ql.sq ((Qls.cons (qC h1 hb.1.1 hb.1.2) (Qls.cons (qC h2 hb.2.1 hb.2.2) (Qls.nil.le (Nat.zero_le _) (Nat.le_refl _)))).le (Nat.le_refl _) (by omega)) k
theorem qBs {ds : List PyData} {bs : List B4} (h : HBs ds bs) (hb : ∀ b ∈ bs, (Sh b.x ∧ Sh b.y) ∧ (Sh b.X ∧ Sh b.Y)) : Qls 2 (7707 * bs.length) ds := by
 induction h with
 | nil => exact Qls.nil.le (Nat.zero_le _) (Nat.zero_le _)
 | @cons d b ds bs h1 h2 ih =>
  refine (Qls.cons (qB h1 (hb b List.mem_cons_self)) (ih fun c hc => hb c (List.mem_cons_of_mem _ hc))).le (Nat.le_refl _) ?_
  rw [List.length_cons]
  omega
theorem Mm {d : PyData} {bs : List B4} (h : HS d bs) (k : YK bs) : Shw d := by
 obtain ⟨c, ds, rfl, h⟩ := h
 have q := Ql.sq (qBs h fun b hb => (k.2.2 b hb).2) c
 refine q.shw (by decide) ?_
 have := k.1.2
 omega
theorem Hf (b : B4) : (bD b).canLay0 = true := by
 unfold bD
 simp [PyData.canLay0, PyData.canLayAll0]
theorem Xn : ∀ bs : List B4, PyData.canLayAll0 (bs.map bD) = true
 | [] => by simp [PyData.canLayAll0]
 | b :: bs => by
  rw [List.map_cons, PyData.canLayAll0, Hf, Xn bs]
  rfl
theorem Es {bs : List B4} (h : YK bs) : Ew (.tuple (bs.map bD)) (.tuple (bs.map bD)) = true ∧ PyData.eqv (.tuple (bs.map bD)) (.tuple (bs.map bD)) = true ∧ Shw (.tuple (bs.map bD)) := by
 have p := XH h
 have c : (PyData.tuple (bs.map bD)).canLay0 = true := by
  rw [PyData.canLay0]
  exact Xn bs
 refine ⟨?_, PySem.SeqAt.eqv_refl _ c, p.od.shw (by decide) (by decide)⟩
 unfold Ew
 rw [c, Bool.and_self, Bool.true_and, Nat.min_self]
 exact Nat.ble_eq_true_of_le (by have := p.dp; omega)
theorem UD (bs : List B4) : Je (.tuple (bs.map bD)) = true := by
 rw [Je]
 induction bs with
 | nil => rw [List.map_nil, J3]
 | cons b bs ih =>
  rw [List.map_cons, J3, ih]
  unfold bD
  simp [Je, J3]
theorem Uj (b : B4) (h : okB b = true) : ZQ b b ≤ 1 := by
 unfold okB at h
 rw [Bool.and_eq_true, decide_eq_true_eq, decide_eq_true_eq] at h
 exact Wl (by omega) (by omega) (by omega) (by omega)
theorem OY : ∀ {l : List B4} {b : B4}, chB (l ++ [b]) = true → ZQ b b ≤ 1 → chB (l ++ [b] ++ [b]) = true := by
 intro l b h1 h2
 rw [List.append_assoc]
 show chB (l ++ [b, b]) = true
 rw [Yj, h1, decide_eq_true h2]
 rfl
theorem Kw : ∀ (bs : List B4) (n : Nat), chB bs = true → chB (bs.take n) = true
 | [], n, _ => by rw [List.take_nil]; rfl
 | [b], 0, _ => rfl
 | [b], n + 1, _ => by rw [List.take_succ_cons, List.take_nil]; rfl
 | a :: b :: l, 0, _ => rfl
 | a :: b :: l, 1, _ => rfl
 | a :: b :: l, n + 2, h => by
  have h' : (decide (ZQ a b ≤ 1) && chB (b :: l)) = true := h
  rw [Bool.and_eq_true] at h'
  have ih := Kw (b :: l) (n + 1) h'.2
  rw [List.take_succ_cons] at ih
  rw [List.take_succ_cons, List.take_succ_cons]
  show (decide (ZQ a b ≤ 1) && chB (b :: l.take n)) = true
  rw [h'.1, ih]
  rfl
theorem YK.take {bs : List B4} (h : YK bs) {n : Nat} (hn : 1 ≤ n) : YK (bs.take n) := by
 refine ⟨⟨by rw [List.length_take]; have := h.1.1; omega, by rw [List.length_take]; have := h.1.2; omega⟩, Kw bs n h.2.1, fun b hb => h.2.2 b (List.mem_of_mem_take hb)⟩
theorem EF (l : List PyData) (k : Nat) : DL.cutD l none (some (k : Int)) = l.take k := by
 unfold DL.cutD
 rw [HT.Wr, HT.GQ, List.drop_zero, Nat.sub_zero]
 by_cases h : k ≤ l.length
 ·rw [Nat.min_eq_left h]
 ·rw [Nat.min_eq_right (by omega), List.take_length, List.take_of_length_le (by omega)]
theorem Eu (l : List PyData) (d : PyData) : DL.cutD (l ++ [d]) (some (-1)) none = [d] := by
 unfold DL.cutD
 have e : HT.sIx (l ++ [d]).length 0 (some (-1)) = l.length := by
  rw [HT.sIx, if_pos (by decide), List.length_append, List.length_singleton]
  omega
 rw [e, HT.Wr, List.drop_left, List.take_of_length_le (by simp only [List.length_append, List.length_singleton]; omega)]
theorem twice {bs : List B4} (h : YK bs) : ∃ cs, YK cs ∧ DL.cutD (bs.map bD ++ DL.cutD (bs.map bD) (some (-1)) none) none (some 6) = cs.map bD := by
 obtain ⟨l, b, rfl⟩ : ∃ l b, bs = l ++ [b] := ⟨bs.dropLast, bs.getLast (by intro e; rw [e] at h; exact absurd h.1.1 (by decide)), (List.dropLast_concat_getLast _).symm⟩
 refine ⟨(l ++ [b] ++ [b]).take 6, ?_, ?_⟩
 ·have hb := h.2.2 b (List.mem_append_right _ List.mem_cons_self)
  refine ⟨⟨?_, ?_⟩, Kw _ 6 (OY h.2.1 (Uj b hb.1)), fun c hc => ?_⟩
  ·rw [List.length_take, List.length_append, List.length_append]
   simp only [List.length_singleton]
   omega
  ·rw [List.length_take]
   omega
  ·rcases List.mem_append.mp (List.mem_of_mem_take hc) with hc | hc
   ·exact h.2.2 c hc
   ·rw [List.mem_singleton.mp hc]
    exact hb
 ·rw [List.map_append, List.map_cons, List.map_nil, Eu, show (6 : Int) = ((6 : Nat) : Int) from rfl, EF, List.map_take, List.map_append, List.map_append]
  rfl
theorem WQ {a b : DV} {j : Int} (h0 : 0 ≤ j) (h1 : j < 2) : ∃ x, L2.atI [a, b] j = some x ∧ (x = a ∨ x = b) := by
 have : j = 0 ∨ j = 1 := by omega
 rcases this with rfl | rfl
 ·exact ⟨a, rfl, .inl rfl⟩
 ·exact ⟨b, rfl, .inr rfl⟩
theorem Bi {M : Mp} (x y : Int) : Tas (Ta M 1) [.dat (.int x), .dat (.int y)] [] [.int x, .int y] :=
 .cons (as := []) (bs := []) (.inl ⟨x, rfl, rfl, rfl⟩) (.cons (as := []) (bs := []) (.inl ⟨y, rfl, rfl, rfl⟩) .nil fun _ h => (nomatch h)) fun _ h => (nomatch h)
theorem Xs {M : Mp} {q : Addr} {x : DV} {u v : Int} (hq : M q = some (.lsv 0 [.dat (.int u), .dat (.int v)])) (hx : x = .dat (.tuple [.int u, .int v]) ∨ x = .own q) : ∃ as d, Ta M 2 x as d ∧ HC d u v ∧ ∀ a ∈ as, a = q := by
 rcases hx with rfl | rfl
 ·exact ⟨[], _, .inr (.inl ⟨_, rfl, rfl, rfl, Bi u v⟩), ⟨false, rfl⟩, fun _ h => (nomatch h)⟩
 ·exact ⟨[q], _, .inr (.inr (.inr ⟨q, _, [], _, rfl, rfl, rfl, hq, List.not_mem_nil, by rw [sizeLine_eq]; simp only [List.length_cons, List.length_nil]; omega, Bi u v⟩)), ⟨true, rfl⟩, fun a h => List.mem_singleton.mp h⟩
theorem NL {M : Mp} {q : Addr} {x c1 c2 : DV} {as bs : List Addr} {d1 d2 : PyData} {b : B4} (h1 : Ta M 2 c1 as d1) (h2 : Ta M 2 c2 bs d2) (hd : ∀ a ∈ as, a ∉ bs) (k1 : HC d1 b.x b.y) (k2 : HC d2 b.X b.Y)
  (hq : M q = some (.lsv 0 [c1, c2])) (hqa : q ∉ as) (hqb : q ∉ bs) (hx : x = .own q ∨ x = .mix [c1, c2]) : ∃ cs d, Ta M 3 x cs d ∧ HB d b ∧ ∀ a ∈ cs, a = q ∨ a ∈ as ∨ a ∈ bs := by
 have t : Tas (Ta M 2) [c1, c2] (as ++ (bs ++ [])) [d1, d2] := .cons h1 (.cons h2 .nil fun _ _ => List.not_mem_nil) (by rw [List.append_nil]; exact hd)
 rw [List.append_nil] at t
 rcases hx with rfl | rfl
 ·refine ⟨q :: (as ++ bs), _, .inr (.inr (.inr ⟨q, _, _, _, rfl, rfl, rfl, hq, fun h => ?_, by rw [sizeLine_eq]; simp only [List.length_cons, List.length_nil]; omega, t⟩)), ⟨true, d1, d2, rfl, k1, k2⟩, fun a h => ?_⟩
  ·rcases List.mem_append.mp h with h | h
   ·exact hqa h
   ·exact hqb h
  ·rcases List.mem_cons.mp h with h | h
   ·exact .inl h
   ·exact .inr (List.mem_append.mp h)
 ·exact ⟨as ++ bs, _, .inr (.inr (.inl ⟨_, _, rfl, rfl, t⟩)), ⟨false, d1, d2, rfl, k1, k2⟩, fun a h => .inr (List.mem_append.mp h)⟩
theorem NR {M : Mp} {q : Addr} {x : DV} {ys : List DV} {as : List Addr} {ds : List PyData} {bs : List B4} (h : Tas (Ta M 3) ys as ds) (k : HBs ds bs) (hl : bs.length ≤ 6) (hq : M q = some (.lsv 0 ys)) (hqa : q ∉ as) (hx : x = .own q ∨ x = .mix ys) :
  ∃ cs d, Ta M 4 x cs d ∧ HS d bs ∧ ∀ a ∈ cs, a = q ∨ a ∈ as := by
 rcases hx with rfl | rfl
 ·exact ⟨q :: as, _, .inr (.inr (.inr ⟨q, _, _, _, rfl, rfl, rfl, hq, hqa, by rw [sizeLine_eq, h.len, k.len]; omega, h⟩)), ⟨true, _, rfl, k⟩, fun a h => List.mem_cons.mp h⟩
 ·exact ⟨as, _, .inr (.inr (.inl ⟨_, _, rfl, rfl, h⟩)), ⟨false, _, rfl, k⟩, fun a h => .inr h⟩
theorem frn {M M' : Mp} {p r a : Addr} {o : OO} (f : Fr p (ZE M r o) M') (hr : M r = none) (ha : a ≠ p) (hn : M a ≠ none) : M' a = M a := by
 have ne : a ≠ r := fun e => hn (by rw [e]; exact hr)
 rw [f.2 a ha (by rw [ZZ ne]; exact hn), ZZ ne]
theorem frf {M M' : Mp} {p a : Addr} (k : ∀ a, a ≠ p → M a ≠ none → M' a = M a) (ha : a ≠ p) (hn : M' a = none) : M a = none := by
 cases e : M a with
 | none => rfl
 | some o =>
  have q := k a ha (by rw [e]; exact Option.some_ne_none _)
  rw [hn, e] at q
  cases q
noncomputable def Jp (M : Mp) (n : Nat) (xs : List DV) (bs : List Addr) (i : Nat) (M1 : Mp) : Prop := ∃ pre rest es, bs = pre ++ rest ∧ (∀ a ∈ pre, a ∉ rest) ∧ Tas (Ta M n) (xs.drop i) rest es ∧ ∀ b, b ∉ pre → M1 b = M b
theorem Jp.zero {M : Mp} {n : Nat} {xs : List DV} {bs : List Addr} {ds : List PyData} (h : Tas (Ta M n) xs bs ds) : Jp M n xs bs 0 M := ⟨[], bs, ds, rfl, fun _ h => (nomatch h), by rw [List.drop_zero]; exact h, fun _ _ => rfl⟩
theorem Jp.keep {M M1 : Mp} {n i : Nat} {xs : List DV} {bs : List Addr} (h : Jp M n xs bs i M1) : ∀ b, b ∉ bs → M1 b = M b := fun b hb => by
 obtain ⟨pre, rest, es, rfl, _, _, k⟩ := h
 exact k b fun e => hb (List.mem_append_left _ e)
theorem Jp.turn {M M1 : Mp} {n i : Nat} {xs : List DV} {bs : List Addr} {x : DV} (h : Jp M n xs bs i M1) (hx : xs[i]? = some x) : ∃ as d, Ta M1 n x as d ∧ ∀ M', (∀ b, b ∉ as → M' b = M1 b) → Jp M n xs bs (i + 1) M' := by
 obtain ⟨pre, rest, es, rfl, dj, t, k⟩ := h
 obtain ⟨hi, rfl⟩ := List.getElem?_eq_some_iff.mp hx
 rw [List.drop_eq_getElem_cons hi] at t
 cases t with
 | @cons x xs' as rest' d ds' h1 h2 h3 =>
  refine ⟨as, d, h1.congr fun a ha => k a fun e => dj a e (List.mem_append_left _ ha), fun M' q => ⟨pre ++ as, rest', ds', by rw [List.append_assoc], fun a ha => ?_, h2, fun b hb => ?_⟩⟩
  ·rcases List.mem_append.mp ha with ha | ha
   ·exact fun e => dj a ha (List.mem_append_right _ e)
   ·exact h3 a ha
  ·rw [q b fun e => hb (List.mem_append_right _ e)]
   exact k b fun e => hb (List.mem_append_left _ e)
noncomputable def YO : DSp := fun xs M Φ => on1 xs fun x => EX x fun _ => Φ x M
theorem G5 (xs : List DV) (M : Mp) (Φ : DK) : YO xs M Φ = (on1 xs fun x => EX x fun _ => Φ x M) := propext Iff.rfl
noncomputable def K5 : DSp := fun xs M Φ => on1 xs fun x => ∃ d b, x = .dat d ∧ HB d b ∧ Φ (.dat (bD b)) M
theorem UM (xs : List DV) (M : Mp) (Φ : DK) : K5 xs M Φ = (on1 xs fun x => ∃ d b, x = .dat d ∧ HB d b ∧ Φ (.dat (bD b)) M) := propext Iff.rfl
noncomputable def VJ : DSp := fun xs M Φ => on1 xs fun x => ∃ d bs, x = .dat d ∧ HS d bs ∧ YK bs ∧ Φ (.dat (.tuple (bs.map bD))) M
theorem Kx (xs : List DV) (M : Mp) (Φ : DK) : VJ xs M Φ = (on1 xs fun x => ∃ d bs, x = .dat d ∧ HS d bs ∧ YK bs ∧ Φ (.dat (.tuple (bs.map bD))) M) := propext Iff.rfl
noncomputable def G8 : DSp := fun xs M Φ => on2 xs fun x y => ∃ bs, x = .dat (.tuple (bs.map bD)) ∧ y = .dat (.tuple (bs.map bD)) ∧ YK bs ∧ Φ (.dat (.bool true)) M
theorem Et (xs : List DV) (M : Mp) (Φ : DK) : G8 xs M Φ = (on2 xs fun x y => ∃ bs, x = .dat (.tuple (bs.map bD)) ∧ y = .dat (.tuple (bs.map bD)) ∧ YK bs ∧ Φ (.dat (.bool true)) M) := propext Iff.rfl
noncomputable def Yu : DSp := fun xs M Φ => on2 xs fun x y => onO x fun p => L8 y fun bs => YK bs ∧ Pen M p ∧ ∀ t as d M', Ta M' 4 t as d → HS d bs → p ∉ as → Pen M' p → Φ t M'
theorem Us (xs : List DV) (M : Mp) (Φ : DK) : Yu xs M Φ = (on2 xs fun x y => onO x fun p => L8 y fun bs => YK bs ∧ Pen M p ∧ ∀ t as d M', Ta M' 4 t as d → HS d bs → p ∉ as → Pen M' p → Φ t M') := propext Iff.rfl
noncomputable def JV (n : Nat) : DSp := fun xs M Φ => on1 xs fun x => ∃ as d, Ta M n x as d ∧ ∀ M', (∀ b, b ∉ as → M' b = M b) → Φ (.dat .none) M'
theorem U2 (n : Nat) (xs : List DV) (M : Mp) (Φ : DK) : JV n xs M Φ = (on1 xs fun x => ∃ as d, Ta M n x as d ∧ ∀ M', (∀ b, b ∉ as → M' b = M b) → Φ (.dat .none) M') := propext Iff.rfl
theorem Xk (xs : List DV) (M : Mp) (Φ : DK) : ¬ JV 0 xs M Φ := fun h => by
 obtain ⟨x, _, as, d, h, _⟩ := Zm (show on1 xs _ from h)
 exact h
theorem Hc (l : List PyData) : sqD true l = .list l := by unfold sqD; rw [if_pos rfl]
theorem Hs (l : List PyData) : sqD false l = .tuple l := by unfold sqD; rw [if_neg Bool.false_ne_true]
theorem G1 {x : DV} {d : PyData} {q : Addr} {P : Prop} (h : x = .dat d ∨ x = .own q) (k : P) : Ut x P := by
 rcases h with rfl | rfl <;> exact k
theorem Lc {x : DV} {ys : List DV} {q : Addr} {P : Prop} (h : x = .own q ∨ x = .mix ys) (k : P) : Ut x P := by
 rcases h with rfl | rfl <;> exact k
theorem HX (b : Bool) : Je (.bool b) = true := by rw [Je]
theorem Ov (s : Str) : Je (.str s) = true := by rw [Je]
theorem Nm {bs : List B4} (hs : YK bs) {r : Int} {F : PyData → Prop} (k : ∀ cs, YK cs → F (.tuple (cs.map bD))) :
  if decide (r = 0) = true then (bs.map bD).length + (DL.cutD (bs.map bD) (some (-1)) none).length ≤ 16777216 ∧ F (.tuple (DL.cutD (bs.map bD ++ DL.cutD (bs.map bD) (some (-1)) none) none (some 6))) else F (.tuple (bs.map bD)) := by
 refine Zw (fun _ => ?_) fun _ => k bs hs
 obtain ⟨cs, hc, e⟩ := twice hs
 refine ⟨?_, by rw [e]; exact k cs hc⟩
 have l : (DL.cutD (bs.map bD) (some (-1)) none).length ≤ (bs.map bD).length := by
  unfold DL.cutD
  rw [List.length_take, List.length_drop]
  omega
 rw [List.length_map] at l ⊢
 have := hs.1.2
 omega
local macro_rules | `(tactic| walk_at "rk") => `(tactic| try simp (config := { maxSteps := 10000000 }) only [↓D4, ↓Du, ↓C1, ↓Cj, ↓CS, ↓Ec, ↓B5, ↓Ce, ↓Bn, ↓BK, ↓LP, ↓Lk, ↓Hm, ↓Hl, ↓Fu, ↓C9, ↓DB, ↓DY, ↓DZ, ↓Cp, ↓Eg, ↓C0, ↓CM, ↓DF, ↓CA, ↓D7, ↓D9, ↓DM, ↓CB, ↓CF, ↓De, ↓UW, ↓UI, ↓By, ↓P4, ↓Za5, ↓Tn, ↓Se, ↓Zba, ↓Ef, ↓Of, ↓Tp, ↓O1, ↓LV, ↓Nc, ↓Fx, ↓Sm, ↓NC, ↓Tv, ↓PM, ↓Ry, ↓Ds, ↓Dl, ↓UN, ↓Oi, ↓LN, ↓PN, ↓NB, ↓LI, ↓Oy, ↓Cy, ↓Cc, ↓CL, ↓B9, ↓Ct, ↓Ee, ↓CG, ↓Cf, ↓Og, ↓RG, ↓HI, ↓Cb, ↓Cw, ↓FT, ↓Py, ↓Uc, ↓Em, ↓W5, ↓Dy, ↓Co, ↓Cd, ↓MT, ↓MD, ↓Hi, ↓LH, ↓Gk, ↓Fw, ↓O6, ↓Fp, ↓N2, ↓CO, ↓FR, ↓Fi, ↓NJ, ↓Lg, ↓NP, ↓YQ, ↓Ur, ↓Km, ↓Eh, ↓Df, ↓HL, ↓FG, ↓MG, ↓Ga, ↓Fn, ↓HE, ↓C5, ↓Cu, ↓Ld, ↓B2, ↓UX, ↓UH, ↓DN, ↓Ed, ↓Bg, ↓RO, ↓NH, ↓Pz, ↓FE, ↓FN, ↓CU, ↓Ek, ↓HJ, ↓Ml, ↓Bc, ↓C2, ↓CV, ↓Pr, ↓G3, ↓Hd, ↓HM, ↓N5, ↓GS, ↓OP, ↓DP, ↓Eb, ↓Dm, ↓BU, ↓OG, ↓BQ, ↓N1, ↓Br, ↓Pa, ↓Dd, ↓U6, ↓Ho, ↓C8, ↓Li, ↓HY, ↓FP, ↓D5, ↓C3, ↓Lw, ↓Ms, ↓Di, ↓NM, ↓C4, ↓FQ, ↓Bv, ↓UA, G0, Gr, CJ, Cn, Dw, W4, JZ, Bq, SN, En, NN, Fd, EU, EN, Mr, isNone_none, K1, UB, Ud, KQ, X5, Wc,
 Option.bind_some, Option.bind_none, Option.join_some, Option.join_none, Option.getD_some, Option.map_some, Option.map_none, List.getElem?_cons_zero, List.getElem?_cons_succ, List.set_cons_zero, List.set_cons_succ, List.map_cons, List.map_nil, List.length_cons, List.length_nil, List.replicate, List.cons_append, List.nil_append, List.any_cons, List.any_nil,
 Z4, UY, ↓reduceIte, Bool.not_true, Bool.not_false, Bool.or_false, Bool.or_true, Bool.true_or, Bool.false_or, Bool.and_true, Bool.and_false, Bool.true_and, Bool.false_and, Bool.bne_true, Bool.bne_false, Bool.false_eq_true, eq_self, true_and, and_true, Nz, PX, PR, exists_eq_left', exists_eq_left, Option.some.injEq, Nat.reduceAdd, Nat.reduceSub, Nat.zero_add, Nat.reduceLT, Nat.reduceLeDiff, Int.reduceToNat, Int.reducePow, Int.reduceSub, Int.reduceMul, Int.reduceAdd, Int.reduceNeg,
 Int.reduceLT, Int.reduceLE, Int.reduceEq, Int.zero_add, Int.cast_ofNat_Int, decide_true, decide_false, sizeLine_eq, FU, BZ, NG, Me, RP, Td, Sn, S6, R4, Sf, Kz, KP, UE, Uk, K7, Xw, K9, XZ, Y9, KZ, Ky, XG, Yp, Xy, YT, YA, Xd, X4, Yi, VW, YN, XC, Y7, Ku, We, XA, YU, Xq, KJ, Kv, Ux, W3, Kq, Xa, K8, XX, X1, KU, KS, XF, Yh, Xg, ↓Wu, ↓Cr, ↓BR, ↓Ea, FD, Lj, ↓Tq, ↓Nx, ↓OA, ↓Nw, ↓PD, ↓Ge, ↓SK, ↓Hx, ↓RE, ↓PQ, ↓DJ, ↓Hq, ↓FJ, ↓KN, ↓BG, ↓Ph, ↓LR, ↓B7, ↓BX, ↓Lr, ↓Oe, ↓BM, ↓CN, ↓Hh, ↓Eo, ↓Gg, ↓Fz, ↓LZ, ↓Cs, ↓Fs, ↓HR, ↓Bw, ↓Dz, ↓GH, ↓CC, He, ↓DX, ↓UQ, ↓UZ, ↓Y1, ↓KY, ↓GP, ↓Cg, ↓CK, ↓N8, ↓HZ, ↓W7, ↓Ko, ↓C6, ↓Cm, ↓Dq, ↓Lv, ↓W9, ↓Kl, ↓El, ↓BB, ↓JG, ↓DH, ↓B6, ↓Ei, ↓Ep, ↓B1, ↓D0, ↓Cz, ↓FF, ↓Xo, ↓YJ, ↓Xm, ↓XB, ↓Hc, ↓Hs, ↓Lq, ↓CY, ↓B8, ↓Fq, ↓BJ, ↓FK, ↓DC, ↓Dx, ↓Ca, HX, Ov, ↓G5, ↓UM, ↓Kx, ↓Et, ↓Us, ↓U2])
theorem Vi (T : Tx K mg) : ZX P w K mg base CX0 1 T.Q4 T.Q1 ["thing"] (lift K spW) := by
 refine okD T.ZM.F Wg (fun xs M Φ h => by obtain ⟨_, rfl, _⟩ := Zm h; rfl) fun cdv A outer s H E hr => ⟨_, (Zi (Zz (QM (Zk (Ke (H0 _)) rfl T.ZJ Zy (Za (Zb 0) (Za (UC rfl T.SU Po) Zd))) (J4 (Mq (Zk (Ke (CW _)) rfl T.ZJ Zy (Za (Zb 0) (Za (UC rfl T.Ou La) Zd)))))))), fun xs M Φ h => ?_⟩
 replace h := Zm h
 obtain ⟨x1, rfl, h⟩ := h
 replace h := Qi h
 obtain ⟨d, rfl, h⟩ := h
 walk_at "rk"
 cases d <;> simpa [Zl, tyN, ZF] using h
theorem K0 (T : Tx K mg) : ZX P w K mg base CX0 2 T.JN T.JU ["thing"] (lift K R0) := by
 have G_is_whole : ZX P w K mg base CX0 1 T.Q4 T.Q1 ["thing"] (lift K spW) := Vi T
 refine okD T.Z5.F KW (fun xs M Φ h => by obtain ⟨_, rfl, _⟩ := Zm h; rfl) fun cdv A outer s H E hr => ⟨_, (Zi (Zz (QM (Zg G_is_whole (hr.mono (by first | decide | omega)) rfl T.ZM.m T.ZM.F.kp T.ZM.b Zr (Za (Zb 0) Zd)) (J4 (Ej KI KI (Bd (YY rfl T.EM)) (Zb 0) (YY rfl T.EM)))))), fun xs M Φ h => ?_⟩
 replace h := Zm h
 obtain ⟨x1, rfl, h⟩ := h
 replace h := Qi h
 obtain ⟨d, rfl, h⟩ := h
 walk_at "rk"
 cases d with
 | int i =>
  walk_at "rk"
  simp only [ZF]
  walk_at "rk"
  refine Zw (fun h1 => ?_) fun h1 => ?_
  ·simpa [Zp, h1] using h
  ·simpa [Zp, h1] using h
 | _ => simpa [ZF, Zp] using h
theorem VT (T : Tx K mg) : ZX P w K mg base CX0 2 T.QF T.QK ["thing"] (lift K SO) := by
 have G_is_whole : ZX P w K mg base CX0 1 T.Q4 T.Q1 ["thing"] (lift K spW) := Vi T
 refine okD T.Qj.F VU (fun xs M Φ h => by obtain ⟨_, rfl, _⟩ := Zm h; rfl) fun cdv A outer s H E hr => ⟨_, (Zi (Zz (QM (Zk (Ke (kit_tuple _)) rfl T.ZJ Zy (Za (Zb 0) (Za (UC rfl T.Qb ZV) Zd))) (QM (V7 (Fl hr) (Zk Vj rfl T.XS J2 (Za (Zb 0) Zd)) Zc) (QM (Zg G_is_whole (hr.mono (by first | decide | omega)) rfl T.ZM.m T.ZM.F.kp T.ZM.b Zr (Za (Zs (Zb 0) Zc) Zd)) (J4 (Zg G_is_whole (hr.mono (by first | decide | omega)) rfl T.ZM.m T.ZM.F.kp T.ZM.b Zr (Za (Zs (Zb 0) Zc) Zd)))))))), fun xs M Φ h => ?_⟩
 replace h := Zm h
 obtain ⟨x1, rfl, h⟩ := h
 replace h := Qi h
 obtain ⟨d, rfl, h⟩ := h
 cases d with
 | tuple ds =>
  walk_at "rk"
  rw [T8]
  refine Zw (fun h1 => ?_) fun h1 => ?_
  ·obtain ⟨a, b, rfl⟩ := XY h1
   walk_at "rk"
   cases q : ZF a with
   | true =>
    walk_at "rk"
    simpa [Jk, q] using h
   | false =>
    walk_at "rk"
    simpa [Jk, q] using h
  ·rw [(Xt h1).1] at h
   exact h
 | _ =>
  walk_at "rk"
  exact h
theorem Ul (T : Tx K mg) : ZX P w K mg base CX0 3 T.Vv T.Vt ["thing"] (lift K Sz) := by
 have G_is_any_spot : ZX P w K mg base CX0 2 T.QF T.QK ["thing"] (lift K SO) := VT T
 have G_is_short : ZX P w K mg base CX0 2 T.JN T.JU ["thing"] (lift K R0) := K0 T
 refine okD T.Qs.F W6 (fun xs M Φ h => by obtain ⟨_, rfl, _⟩ := Zm h; rfl) fun cdv A outer s H E hr => ⟨_, (Zi (Zz (QM (Zg G_is_any_spot (hr.mono (by first | decide | omega)) rfl T.Qj.m T.Qj.F.kp T.Qj.b Zr (Za (Zb 0) Zd)) (QM (Zg G_is_short (hr.mono (by first | decide | omega)) rfl T.Z5.m T.Z5.F.kp T.Z5.b Zr (Za (Zs (Zb 0) Zc) Zd)) (J4 (Zg G_is_short (hr.mono (by first | decide | omega)) rfl T.Z5.m T.Z5.F.kp T.Z5.b Zr (Za (Zs (Zb 0) Zc) Zd))))))), fun xs M Φ h => ?_⟩
 replace h := Zm h
 obtain ⟨x1, rfl, h⟩ := h
 replace h := Qi h
 obtain ⟨d, rfl, h⟩ := h
 walk_at "rk"
 cases q : Jk d with
 | false =>
  walk_at "rk"
  rw [WJ q] at h
  exact h
 | true =>
  obtain ⟨x, y, rfl⟩ := ES q
  walk_at "rk"
  replace h : Φ (.dat (.bool (Zp (.int x) && Zp (.int y)))) M := h
  cases q1 : Zp (.int x) with
  | false =>
   rw [q1] at h
   walk_at "rk"
   exact h
  | true =>
   rw [q1] at h
   walk_at "rk"
   exact h
theorem XW (T : Tx K mg) : ZX P w K mg base CX0 1 T.Jy T.Jz ["box"] (lift K Hn) := by
 refine okD T.QE.F Xh (fun xs M Φ h => by obtain ⟨_, rfl, _⟩ := Zm h; rfl) fun cdv A outer s H E hr => ⟨_, (Zi (Zz (QM (V7 KI (Zs (Zs (Zb 0) Zc) Zc) (Zs (Zs (Zb 0) Zc) Zc)) (J4 (V7 KI (Zs (Zs (Zb 0) Zc) Zc) (Zs (Zs (Zb 0) Zc) Zc)))))), fun xs M Φ h => ?_⟩
 replace h := Zm h
 obtain ⟨x1, rfl, h⟩ := h
 replace h := X6 h
 obtain ⟨b, rfl, h⟩ := h
 walk_at "rk"
 refine Zw (fun h1 => ?_) (fun h1 => ?_)
 ·unfold okB at h
  simpa [h1] using h
 ·unfold okB at h
  simpa [h1] using h
theorem Gf (T : Tx K mg) : ZX P w K mg base CX0 4 T.Yk T.Yw ["thing"] (lift K RC) := by
 have G_is_spot : ZX P w K mg base CX0 3 T.Vv T.Vt ["thing"] (lift K Sz) := Ul T
 have G_has_spots : ZX P w K mg base CX0 1 T.Jy T.Jz ["box"] (lift K Hn) := XW T
 refine okD T.Vf.F Bp (fun xs M Φ h => by obtain ⟨_, rfl, _⟩ := Zm h; rfl) fun cdv A outer s H E hr => ⟨_, (Zf (Jx (DW.dt (Uv (JF (Jl (Zk (Ke (kit_tuple _)) rfl T.ZJ Zy (Za (Zb 0) (Za (UC rfl T.Qb ZV) Zd))))) (XI (QR (SV hr) (Zk Vj rfl T.XS J2 (Za (Zb 0) Zd)) Zc)))) (Zi (Zz Xj)) Z0)
 (Zi (Zz (QM (Zg G_is_spot (hr.mono (by first | decide | omega)) rfl T.Qs.m T.Qs.F.kp T.Qs.b Zr (Za (Zs (Zb 0) Zc) Zd)) (QM (Zg G_is_spot (hr.mono (by first | decide | omega)) rfl T.Qs.m T.Qs.F.kp T.Qs.b Zr (Za (Zs (Zb 0) Zc) Zd)) (J4 (Zg G_has_spots (hr.mono (by first | decide | omega)) rfl T.QE.m T.QE.F.kp T.QE.b Zr (Za (Zb 0) Zd)))))))), fun xs M Φ h => ?_⟩
 replace h := Zm h
 obtain ⟨x1, rfl, h⟩ := h
 replace h := Qi h
 obtain ⟨d, rfl, h⟩ := h
 cases d with
 | tuple ds =>
  walk_at "hd"
  walk_at "rk"
  rw [T8]
  by_cases h1 : ds.length = 2
  ·obtain ⟨a, b, rfl⟩ := XY h1
   replace h : Φ (.dat (.bool (Z2 a && (Z2 b && okB (toB (.tuple [a, b])))))) M := h
   subst_vars
   walk_at "rk"
   cases q : Z2 a with
   | false =>
    rw [q] at h
    walk_at "rk"
    exact h
   | true =>
    rw [q] at h
    walk_at "rk"
    cases q2 : Z2 b with
    | false =>
     rw [q2] at h
     walk_at "rk"
     exact h
    | true =>
     rw [q2] at h
     obtain ⟨x, y, rfl, _⟩ := YL q
     obtain ⟨x', y', rfl, _⟩ := YL q2
     walk_at "rk"
     exact h
  ·rw [decide_eq_false h1]
   rw [(Xt h1).2.2] at h
   walk_at "rk"
   exact h
 | _ =>
  walk_at "rk"
  exact h
theorem Md (T : Tx K mg) : ZX P w K mg base CX0 1 T.Hw T.Ls ["one", "other", "way"] (lift K Ft) := by
 refine okD T.Kj.F Oq (fun xs M Φ h => by obtain ⟨_, _, _, rfl, _⟩ := XR h; rfl) fun cdv A outer s H E hr => ⟨_, (Zi (Zz (Zk (Ha rfl) rfl T.NW Fb (Za Zc (Za (Zj QW (Zs (Zs (Zb 1) Zc) (Zb 2)) (Zs (Zs (Zb 0) Zc) (Zb 2))) (Za (Zj QW (Zs (Zs (Zb 0) Zc) (Zb 2)) (Zs (Zs (Zb 1) Zc) (Zb 2))) Zd)))))), fun xs M Φ h => ?_⟩
 replace h := XR h
 obtain ⟨x1, x2, x3, rfl, h⟩ := h
 replace h := X6 h
 obtain ⟨a, rfl, h⟩ := h
 replace h := X6 h
 obtain ⟨b, rfl, h⟩ := h
 replace h := ZH h
 obtain ⟨i, rfl, hi, h⟩ := h
 rcases hi with rfl | rfl
 ·walk_at "rk"
  exact h
 ·walk_at "rk"
  exact h
theorem Vb (T : Tx K mg) : ZX P w K mg base CX0 2 T.Qq T.Qt ["one", "other"] (lift K Vn) := by
 have G_gap : ZX P w K mg base CX0 1 T.Hw T.Ls ["one", "other", "way"] (lift K Ft) := Md T
 refine okD T.Z3.F Va (fun xs M Φ h => by obtain ⟨_, _, rfl, _⟩ := Qr h; rfl) fun cdv A outer s H E hr => ⟨_, (Zi (Zz (Zk (Fm rfl) rfl T.NW Fb (Za (Zg G_gap (hr.mono (by first | decide | omega)) rfl T.Kj.m T.Kj.F.kp T.Kj.b Zr (Za (Zb 0) (Za (Zb 1) (Za Zc Zd)))) (Za (Zg G_gap (hr.mono (by first | decide | omega)) rfl T.Kj.m T.Kj.F.kp T.Kj.b Zr (Za (Zb 0) (Za (Zb 1) (Za Zc Zd)))) Zd))))), fun xs M Φ h => ?_⟩
 replace h := Qr h
 obtain ⟨x1, x2, rfl, h⟩ := h
 replace h := X6 h
 obtain ⟨a, rfl, h⟩ := h
 replace h := X6 h
 obtain ⟨b, rfl, h⟩ := h
 walk_at "rk"
 exact ⟨.inl trivial, .inr trivial, h⟩
theorem KG (T : Tx K mg) : ZX P w K mg base CX0 3 T.JS T.JR ["boxes"] (lift K Ks) := by
 have G_steps_between : ZX P w K mg base CX0 2 T.Qq T.Qt ["one", "other"] (lift K Vn) := Vb T
 refine okD T.Q7.F KR (fun xs M Φ h => by obtain ⟨_, rfl, _⟩ := Zm h; rfl) fun cdv A outer s H E hr => ⟨_, (Zi (Zz (Zk (EY rfl) rfl T.Pk EI (Za (Yt false (QZ (sc := Ze Qc) (XN := ["boxes"]) (N := ["k", "boxes"]) (ix := [none, some 0]) rfl rfl (by decide +kernel)) (U8 rfl T.VP (Za Zc (Za (Zk Vj rfl T.XS J2 (Za (Zb 0) Zd)) Zd))) (fun C ex s H => (ZR 0 (show List.Nodup (["k", "boxes"] : List Str) by decide +kernel))) (fun C ex s H => VR) (fun C ex s H => (V7 KI (Zg G_steps_between (hr.mono (by first | decide | omega)) rfl T.Z3.m T.Z3.F.kp T.Z3.b Zr (Za (Zs (Zb 1) (Zj QW (Zb 0) Zc)) (Za (Zs (Zb 1) (Zb 0)) Zd))) Zc)) rfl) Zd)))), fun xs M Φ h => ?_⟩
 replace h := Zm h
 obtain ⟨x1, rfl, h⟩ := h
 replace h := GK h
 obtain ⟨bs, rfl, hl, h⟩ := h
 walk_at "rk"
 rw [List.length_map]
 refine ⟨⟨⟨by decide, by decide⟩, ⟨by omega, by omega⟩⟩, by rw [Vd]; omega, fun i acc M' => acc = ((List.range i).map (stB bs)).map PyData.bool ∧ M' = M, ⟨rfl, rfl⟩, ?_, ?_⟩
 ·rintro i d acc M' hd ⟨rfl, rfl⟩
  have hi : i < ((bs.length : Int) - 1).toNat := by have := (List.getElem?_eq_some_iff.mp hd).1; rw [Vd] at this; exact this
  rw [WC hi] at hd
  cases hd
  walk_at "rk"
  have hi' : i + 1 < bs.length := by omega
  have e1 : L2.atI (bs.map bD) (1 + (i : Int) - 1) = some (bD bs[i]) := by
   rw [show 1 + (i : Int) - 1 = (i : Int) by omega]
   exact JQ (by rw [List.getElem?_map, List.getElem?_eq_getElem (by omega)]; rfl)
  have e2 : L2.atI (bs.map bD) (1 + (i : Int)) = some (bD bs[i + 1]) := by
   rw [show 1 + (i : Int) = ((i + 1 : Nat) : Int) by omega]
   exact JQ (by rw [List.getElem?_map, List.getElem?_eq_getElem (by omega)]; rfl)
  refine Vx e1 (Vx e2 ?_)
  walk_at "rk"
  rw [List.range_succ, List.map_append, List.map_append]
  unfold stB
  simp [List.getElem?_eq_getElem, hi', show i < bs.length by omega]
 ·rintro acc M' ⟨rfl, rfl⟩
  refine ⟨_, rfl, ?_⟩
  rw [Vd, List.all_map, show ((bs.length : Int) - 1).toNat = bs.length - 1 by omega]
  rw [UK] at h
  exact h
theorem Vk (T : Tx K mg) : ZX P w K mg base CX0 5 T.Q2 T.Jc ["thing"] (lift K YC) := by
 have G_is_chain : ZX P w K mg base CX0 3 T.JS T.JR ["boxes"] (lift K Ks) := KG T
 have G_is_box : ZX P w K mg base CX0 4 T.Yk T.Yw ["thing"] (lift K RC) := Gf T
 refine okD T.ZO.F Kp (fun xs M Φ h => by obtain ⟨_, rfl, _⟩ := Zm h; rfl) fun cdv A outer s H E hr => ⟨_, (Zf (Jx (DW.dt (Uv (JF (Jl (Zk (Ke (kit_tuple _)) rfl T.ZJ Zy (Za (Zb 0) (Za (UC rfl T.Qb ZV) Zd))))) (XI (JF (B0 KI KI Zc (Zk Vj rfl T.XS J2 (Za (Zb 0) Zd)) (YY rfl T.Xx)))))) (Zi (Zz Xj)) Z0)
 (Zi (Zz (QM (Zk (EY rfl) rfl T.Pk EI (Za (Yt false (QZ (sc := Ze Qa) (XN := ["thing"]) (N := ["box"]) (ix := [none]) rfl rfl (by decide +kernel)) (MW (Zb 0)) (fun C ex s H => (ZR 0 (show List.Nodup (["box"] : List Str) by decide +kernel))) (fun C ex s H => VR) (fun C ex s H => (Zg G_is_box (hr.mono (by first | decide | omega)) rfl T.Vf.m T.Vf.F.kp T.Vf.b Zr (Za (Zb 0) Zd))) rfl) Zd)) (J4 (Zg G_is_chain (hr.mono (by first | decide | omega)) rfl T.Q7.m T.Q7.F.kp T.Q7.b Zr (Za (Zb 0) Zd))))))), fun xs M Φ h => ?_⟩
 replace h := Zm h
 obtain ⟨x1, rfl, h⟩ := h
 replace h := Qi h
 obtain ⟨d, rfl, h⟩ := h
 cases d with
 | tuple ds =>
  walk_at "hd"
  walk_at "rk"
  refine Zw (fun h1 => G7 (fun h2 => ?_) fun h2 => ?_) fun h1 => ?_
  ·rw [Xf (.inr h2)] at h
   exact h
  ·have e : QG (.tuple ds) = (ds.all QO && chB (ds.map toB)) := by
    show ((decide (1 ≤ ds.length) && decide (ds.length ≤ 6)) && _) = _
    rw [decide_eq_true (show 1 ≤ ds.length by omega), decide_eq_true (show ds.length ≤ 6 by omega)]
    rfl
   rw [e] at h
   subst_vars
   walk_at "rk"
   refine ⟨by omega, fun i acc M' => acc = ((ds.take i).map QO).map PyData.bool ∧ M' = M, ⟨rfl, rfl⟩, ?_, ?_⟩
   ·rintro i d acc M' hd ⟨rfl, rfl⟩
    walk_at "rk"
    rw [← take_snoc _ hd, List.map_append]
    rfl
   ·rintro acc M' ⟨rfl, rfl⟩
    refine ⟨_, rfl, ?_⟩
    rw [List.take_length, List.all_map]
    show if ds.all QO = true then _ else _
    cases q : ds.all QO with
    | false =>
     rw [q] at h
     walk_at "rk"
     exact h
    | true =>
     rw [q] at h
     obtain ⟨bs, rfl⟩ := Wo q
     rw [Vy] at h
     walk_at "rk"
     rw [List.length_map] at h2
     exact ⟨by omega, h⟩
  ·rw [Xf (.inl h1)] at h
   exact h
 | _ =>
  walk_at "rk"
  exact h
theorem VH (T : Tx K mg) : ZX P w K mg base CX0 1 T.VG T.VC ["_law_pen", "_law_many"] (lift K Vg) := by
 refine okD T.Zh.F JB (fun xs M Φ h => by obtain ⟨_, _, rfl, _⟩ := Qr h; rfl) fun cdv A outer s H E hr => ⟨_, (Zf (Jx (QR Pg (Zs (Zb 0) Zc) Zc) (Zf (ZK 6 JB.nd (Zj Ji (Zs (Zb 0) Zc) (Zb 1)))
 (Zf (Xl (Zj Wv (Zs (Zb 0) Zc) (Zb 1)) (BD (Zb 0) Zc))
 (Zi (Zz (Zb 6))))) Z0)
 (Zf (ZK 2 JB.nd (Zs (Zb 0) Zc))
 (Zf (Xl (Zj ZY (Zb 2) Zc) (BD (Zb 0) Zc))
 (Zf (ZK 3 JB.nd Zc)
 (Zf (Jx (QR Pg (Zk Vj rfl T.XS J2 (Za (Zs (Zb 0) Zc) Zd)) Zc) (Zi (ZK 3 JB.nd (Zs (Zs (Zb 0) Zc) (Zj Ji (Zb 2) (Zk Vj rfl T.XS J2 (Za (Zs (Zb 0) Zc) Zd)))))) Z0)
 (Zf (Jx (DW.dt (PJ (QR MR (Zb 2) (Zk Vj rfl T.XS J2 (Za (Zs (Zb 0) Zc) Zd))) (Lf (QR S4 (Zk GD rfl T.FZ Gd (Za (Zb 3) Zd)) (Zj J7 Zc Zc))))) (Zf (Xl (Zj Wv (Zk GD rfl T.FZ Gd (Za (Zb 3) Zd)) (Zb 1)) (BD (Zb 0) Zc))
 (Zi (Zz (Zj Ji (Zk GD rfl T.FZ Gd (Za (Zb 3) Zd)) (Zb 1))))) Z0)
 (Zf (ZK 4 JB.nd (Zj Ji (Zj QT (Zj ZY (Zj ZY (Zj Ji (Zb 3) Zc) (Zj QT Zc (Zb 2))) Zc) Zc) Zc))
 (Zf (ZK 5 JB.nd (Zj Ji (Zj ZY (Zj ZY (Zj QT (Zb 4) (Zb 4)) (Zj QT Zc (Zb 4))) (Zj QT Zc (Zb 2))) Zc))
 (Zi (Zz (Zj Ji (Zj UO (Zj Ji (Zj QT (Zb 5) (Zj ZY (Zj Ji (Zb 5) Zc) Zc)) Zc) Zc) (Zb 1)))))))))))), fun xs M Φ h => ?_⟩
 replace h := Qr h
 obtain ⟨x1, x2, rfl, h⟩ := h
 replace h := Q0 h
 obtain ⟨p, rfl, h⟩ := h
 replace h := ZH h
 obtain ⟨m, rfl, ⟨h0, h1⟩, hp, h⟩ := h
 obtain ⟨ns, i, b, hi, hp⟩ := hp.get
 have lg : m.natAbs.log2 < 9000 := Nat.lt_of_lt_of_le (Yo (k := 200) (by omega) (by decide)) (by decide)
 have fin : ∀ (x j c : Int), 0 ≤ j → Φ (.dat (.int (x % m))) (ZE M p (.lst [.list (ns.map PyData.int), .int j, .int c])) := fun x j c hj => h _ _ (G2 x h0).1 (G2 x h0).2 (Fr.ZE ⟨ns, j, c, hj, rfl⟩)
 walk_at "hd"
 walk_at "rk"
 simp only [hp]
 walk_at "rk"
 refine Zw (fun h2 => ?_) fun h2 => ?_
 ·exact ⟨h0, ⟨h0, lg⟩, fin _ _ _ hi⟩
 ·walk_at "hd"
  walk_at "rk"
  simp only [hp]
  walk_at "rk"
  walk_at "hd"
  walk_at "rk"
  simp only [hp]
  walk_at "rk"
  walk_at "hd"
  walk_at "rk"
  walk_at "hd"
  walk_at "rk"
  rw [List.length_map]
  refine Zw (fun hl => ?_) fun hl => ?_
  ·have hm := G2 i hl
   obtain ⟨c, hc⟩ := LW (ns := ns) hm.1 hm.2
   refine ⟨hl, Vx hc ?_⟩
   walk_at "hd"
   walk_at "rk"
   rw [List.length_map]
   refine Zw (fun h2 => ⟨Ff _ (by decide), Zw (fun h3 => ⟨⟨h0, lg⟩, h0, fin _ _ _ (by omega)⟩) fun h3 => ?_⟩) fun h2 => ?_
   ·walk_at "hd"
    walk_at "rk"
    refine ⟨.inl (by decide), .inr (by decide), ?_⟩
    walk_at "hd"
    walk_at "rk"
    refine ⟨.inl (by omega), .inl (by decide), .inl (by decide), ?_⟩
    subst_vars
    walk_at "rk"
    refine ⟨.inl (by omega), ⟨by decide, by decide⟩, by assumption, ?_⟩
    exact fin _ _ _ (by omega)
   ·walk_at "hd"
    walk_at "rk"
    refine ⟨.inl (by decide), .inr (by decide), ?_⟩
    walk_at "hd"
    walk_at "rk"
    refine ⟨.inl (by omega), .inl (by decide), .inl (by decide), ?_⟩
    subst_vars
    walk_at "rk"
    refine ⟨.inl (by omega), ⟨by decide, by decide⟩, by assumption, ?_⟩
    exact fin _ _ _ (by omega)
  ·walk_at "hd"
   walk_at "rk"
   rw [List.length_map]
   refine Zw (fun h2 => absurd h2 (by omega)) fun h2 => ?_
   walk_at "hd"
   walk_at "rk"
   refine ⟨.inl (by decide), .inr (by decide), ?_⟩
   walk_at "hd"
   walk_at "rk"
   refine ⟨.inl (by omega), .inl (by decide), .inl (by decide), ?_⟩
   subst_vars
   walk_at "rk"
   refine ⟨.inl (by omega), ⟨by decide, by decide⟩, by assumption, ?_⟩
   exact fin _ _ _ (by omega)
theorem FY (T : Tx K mg) : ZX P w K mg base CX0 2 T.UJ T.Gj ["_law_pen", "_law_many"] (lift K Bt) := by
 have G_take : ZX P w K mg base CX0 1 T.VG T.VC ["_law_pen", "_law_many"] (lift K Vg) := VH T
 refine okD T.VE.F Yz (fun xs M Φ h => by obtain ⟨_, _, rfl, _⟩ := Qr h; rfl) fun cdv A outer s H E hr => ⟨_, (Zf (Jx (QR MR (Zb 1) (Zj J7 Zc Zc)) (Zi (Zz (Zg G_take (hr.mono (by first | decide | omega)) rfl T.Zh.m T.Zh.F.kp T.Zh.b Zr (Za (Zb 0) (Za (Zb 1) Zd))))) Z0)
 (Zf (ZK 2 Yz.nd Zc)
 (Zf (YF rfl T.VP (Za (Zj ZY (Zj UO (Zk Fj rfl T.XS J2 (Za (ZL HA rfl T.RZ MN (Za (Zb 1) Zd)) Zd)) Zc) Zc) Zd) (ZR 3 Yz.nd) (Zi (ZK 2 Yz.nd (Zj ZY (Zj QT (Zb 2) (Zj J7 Zc Zc)) (Zg G_take (hr.mono (by first | decide | omega)) rfl T.Zh.m T.Zh.F.kp T.Zh.b Zr (Za (Zb 0) (Za (Zj J7 Zc Zc) Zd)))))) PassesOwn.never rfl)
 (Zi (Zz (Zj Ji (Zb 2) (Zb 1))))))), fun xs M Φ h => ?_⟩
 replace h := Qr h
 obtain ⟨x1, x2, rfl, h⟩ := h
 replace h := Q0 h
 obtain ⟨p, rfl, h⟩ := h
 replace h := ZH h
 obtain ⟨m, rfl, ⟨h0, h1⟩, hp, h⟩ := h
 have lg : m.natAbs.log2 < 1920 := Nat.lt_of_lt_of_le (Yo (k := 200) (by omega) (by decide)) (by decide)
 walk_at "hd"
 walk_at "rk"
 refine ⟨Ff _ (by decide), Zw (fun h2 => ⟨⟨h0, h1⟩, hp, h⟩) fun h2 => ?_⟩
 have hz := int_text_len_1921 lg
 walk_at "hd"
 walk_at "rk"
 walk_at "hd"
 walk_at "rk"
 refine ⟨lg, by omega, ⟨by decide, by decide⟩, ⟨by omega, by omega⟩, fun i Δ M' => ∃ (v : Int) (kk : Option DV), Δ = [some (.own p), some (.dat (.int m)), some (.dat (.int v)), kk] ∧ Fr p M M', ⟨0, none, rfl, Fr.refl hp⟩, ?_, ?_⟩
 ·rintro i Δ M' hi ⟨v, kk, rfl, hf⟩
  walk_at "rk"
  refine ⟨Ff _ (by decide), .inr (by decide), Ff _ (by decide), hf.1, fun r M2 h3 h4 f2 => ?_⟩
  exact ⟨_, _, rfl, hf.trans f2⟩
 ·rintro Δ M' ⟨v, kk, rfl, hf⟩
  subst_vars
  walk_at "rk"
  exact ⟨h0, h _ _ (G2 v h0).1 (G2 v h0).2 hf⟩
theorem Ci (T : Tx K mg) : ZX P w K mg base CX0 2 T.Kn T.K2 ["_law_pen", "_law_most"] (lift K K3) := by
 have G_take : ZX P w K mg base CX0 1 T.VG T.VC ["_law_pen", "_law_many"] (lift K Vg) := VH T
 refine okD T.Yy.F Qx (fun xs M Φ h => by obtain ⟨_, _, rfl, _⟩ := Qr h; rfl) fun cdv A outer s H E hr => ⟨_, (Zf (ZK 2 Qx.nd (WW (Za (Zg G_take (hr.mono (by first | decide | omega)) rfl T.Zh.m T.Zh.F.kp T.Zh.b Zr (Za (Zb 0) (Za Zc Zd))) (Za (Zg G_take (hr.mono (by first | decide | omega)) rfl T.Zh.m T.Zh.F.kp T.Zh.b Zr (Za (Zb 0) (Za Zc Zd))) Zd))))
 (Zf (ZK 3 Qx.nd (Kk (Za (QY (Za (ZL Qo rfl T.Qb ZV (Za (Zb 2) Zd)) (Za (QY (Za (Zj ZY (Zs (Zb 2) Zc) (Zg G_take (hr.mono (by first | decide | omega)) rfl T.Zh.m T.Zh.F.kp T.Zh.b Zr (Za (Zb 0) (Za Zc Zd)))) (Za (Zj ZY (Zs (Zb 2) Zc) (Zg G_take (hr.mono (by first | decide | omega)) rfl T.Zh.m T.Zh.F.kp T.Zh.b Zr (Za (Zb 0) (Za Zc Zd)))) Zd))) Zd))) Zd)))
 (Zf (YF rfl T.VP (Za (Zg G_take (hr.mono (by first | decide | omega)) rfl T.Zh.m T.Zh.F.kp T.Zh.b Zr (Za (Zb 0) (Za (Zb 1) Zd))) Zd) (ZR 4 Qx.nd) (Zf (Xl (Zs (Zb 3) (Bd Zc)) (WM (n := 2) rfl (Qz (ZR 6 Qx.nd) (Qz (ZR 7 Qx.nd) Y0))))
 (Zf (ZK 5 Qx.nd (WW (Za (Zg G_take (hr.mono (by first | decide | omega)) rfl T.Zh.m T.Zh.F.kp T.Zh.b Zr (Za (Zb 0) (Za Zc Zd))) (Za (Zg G_take (hr.mono (by first | decide | omega)) rfl T.Zh.m T.Zh.F.kp T.Zh.b Zr (Za (Zb 0) (Za Zc Zd))) Zd))))
 (Zf (Ey 2 false Qx.nd (QZ (sc := Ze JA) (XN := ["_law_pen", "_law_most", "_law_low", "_law_found", "_law_k", "_law_wide_here", "_law_first", "_law_last"]) (N := ["_law_w", "_law_pen", "_law_first", "_law_wide_here", "_law_last"]) (ix := [none, some 0, some 6, some 5, some 7]) rfl rfl (by decide +kernel)) (U1 rfl T.VP (Za Zc Zd)) (fun C ex s H => (ZR 0 (show List.Nodup (["_law_w", "_law_pen", "_law_first", "_law_wide_here", "_law_last"] : List Str) by decide +kernel))) (fun C ex s H => VR) (fun C ex s H => (Zj ZY (Zj QW (Zj QW (Zs (Zb 2) (Zb 0)) (Zs (Zb 3) (Zb 0))) Zc) (Zg G_take (hr.mono (by first | decide | omega)) rfl T.Zh.m T.Zh.F.kp T.Zh.b Zr (Za (Zb 1) (Za (Zj ZY (Zj ZY (Zj QW (Zs (Zb 4) (Zb 0)) (Zs (Zb 2) (Zb 0))) (Zs (Zb 3) (Zb 0))) Zc) Zd))))) rfl)
 (Zi (Jo (Kb (Zb 3) (QY (Za (ZL Qo rfl T.Qb ZV (Za (Zb 2) Zd)) (Za (QY (Za (Zj ZY (Zs (Zb 2) Zc) (Zs (Zb 5) Zc)) (Za (Zj ZY (Zs (Zb 2) Zc) (Zs (Zb 5) Zc)) Zd))) Zd))))))))) PassesOwn.never rfl)
 (Zi (Zz (Oa (Zb 3))))))), fun xs M Φ h => ?_⟩
 replace h := Qr h
 obtain ⟨x1, x2, rfl, h⟩ := h
 replace h := Q0 h
 obtain ⟨p, rfl, h⟩ := h
 replace h := ZH h
 obtain ⟨m, rfl, hm, hp, h⟩ := h
 walk_at "hd"
 walk_at "rk"
 refine ⟨hp, fun x1 M1 a1 b1 f1 => ⟨f1.1, fun y1 M2 a2 b2 f2 => ?_⟩⟩
 walk_at "hd"
 walk_at "rk"
 refine ⟨f2.1, fun x2 M3 a3 b3 f3 => ⟨f3.1, fun y2 M4 a4 b4 f4 q hq => ?_⟩⟩
 have F0 := ((f1.trans f2).trans f3).trans f4
 have n1 : q ≠ p := Ne.symm (f4.1.ne hq)
 have q0 : M q = none := F0.fresh hq
 walk_at "hd"
 walk_at "rk"
 refine ⟨⟨by omega, by omega⟩, f4.1.put (Ne.symm n1), fun r M5 a5 b5 f5 => ⟨⟨by omega, by omega⟩, ?_⟩⟩
 refine ⟨fun i Δ M' => ∃ (cs : List B4) (b : B4) (k2 k4 k5 k6 k7 : Option DV), Δ = [some (.own p), some (.dat (.int m)), k2, some (.own q), k4, k5, k6, k7] ∧ cs.length = i ∧ chB (cs ++ [b]) = true ∧ (∀ c ∈ cs ++ [b], Grb i c) ∧ M' q = some (.lst (cs.map bD ++ [bD b])) ∧ Fr p M M',
  ⟨[], ⟨x1, y1, x1 + x2, y1 + y2⟩, _, _, _, _, _, rfl, rfl, rfl, ?_, f5.own Z4 n1, (F0.new q0 n1).trans f5⟩, ?_, ?_⟩
 ·intro c hc
  rw [List.mem_singleton.mp hc]
  unfold Grb
  dsimp only
  omega
 ·rintro i Δ M' hi ⟨cs, b, k2, k4, k5, k6, k7, rfl, hl, hch, hcs, hq', hF⟩
  have hb := hcs b (List.mem_append_right _ (List.mem_singleton.mpr rfl))
  unfold Grb at hb
  rw [YQ]
  walk_at "hd"
  walk_at "rk"
  simp only [hq']
  walk_at "rk"
  walk_at "hd"
  walk_at "rk"
  refine ⟨hF.1, fun w1 M6 a6 b6 f6 => ⟨f6.1, fun w2 M7 a7 b7 f7 => ?_⟩⟩
  walk_at "hd"
  walk_at "rk"
  refine ⟨⟨by decide, by decide⟩, ⟨by omega, by omega⟩, f7.1, fun u1 M8 a8 b8 f8 => ⟨⟨by omega, by omega⟩, f8.1, fun u2 M9 a9 b9 f9 => ?_⟩⟩
  have F1 := ((f6.trans f7).trans f8).trans f9
  subst_vars
  walk_at "rk"
  simp only [F1.own hq' n1]
  walk_at "rk"
  refine ⟨by rw [List.length_append, List.length_map, List.length_singleton]; omega, cs ++ [b], ⟨b.x - w1 - 1 + u1, b.y - w2 - 1 + u2, b.x - w1 - 1 + u1 + w1, b.y - w2 - 1 + u2 + w2⟩, _, _, _, _, _, rfl, by rw [List.length_append]; rfl, ?_, fun c hc => ?_, ?_, (hF.trans F1).new q0 n1⟩
  ·rw [List.append_assoc]
   show chB (cs ++ [b, _]) = true
   rw [Yj, hch, decide_eq_true (Wl (by dsimp only; omega) (by dsimp only; omega) (by dsimp only; omega) (by dsimp only; omega))]
   rfl
  ·rcases List.mem_append.mp hc with hc | hc
   ·have := hcs c hc
    unfold Grb at this ⊢
    omega
   ·rw [List.mem_singleton.mp hc]
    unfold Grb
    dsimp only
    omega
  ·rw [List.map_append]
   rfl
 ·rintro Δ M' ⟨cs, b, k2, k4, k5, k6, k7, rfl, hl, hch, hcs, hq', hF⟩
  subst_vars
  walk_at "rk"
  simp only [hq']
  walk_at "rk"
  rw [show cs.map bD ++ [bD b] = (cs ++ [b]).map bD by rw [List.map_append]; rfl]
  refine h _ _ ⟨by rw [List.length_append, List.length_singleton]; omega, hch, fun c hc => ?_⟩ (hF.gone q0 n1)
  have := hcs c hc
  unfold Grb at this ⊢
  omega
theorem XU (T : Tx K mg) : ZX P w K mg base CX0 1 T.Jn T.Js ["_law_boxes_here", "_law_by", "_law_off"] (lift K JC) := by
 refine okG T.QJ.F Qf (fun xs M Φ h => by obtain ⟨_, _, _, rfl, _⟩ := XR h; rfl) fun cdv A outer s H E hr => ⟨_, (Zf (ZK 3 Qf.nd (Kk Zd))
 (Zf (Lb (Zb 0) (WM (n := 2) rfl (Qz (ZR 4 Qf.nd) (Qz (ZR 5 Qf.nd) Y0))) (Zf (ZK 6 Qf.nd (QY (Za (Zj ZY (Zj QT (Zs (Zb 4) Zc) (Zb 1)) (Zs (Zb 2) Zc)) (Za (Zj ZY (Zj QT (Zs (Zb 4) Zc) (Zb 1)) (Zs (Zb 2) Zc)) Zd))))
 (Zi (Jo (Kb (Zb 3) (QY (Za (Zb 6) (Za (QY (Za (Zj ZY (Zj QW (Zj ZY (Zj QT (Zs (Zb 5) Zc) (Zb 1)) (Zb 1)) Zc) (Zs (Zb 2) Zc)) (Za (Zj ZY (Zj QW (Zj ZY (Zj QT (Zs (Zb 5) Zc) (Zb 1)) (Zb 1)) Zc) (Zs (Zb 2) Zc)) Zd))) Zd))))))) PassesOwn.never rfl)
 (Zi (Zz (ZL Qo rfl T.Qb ZV (Za (Zb 3) Zd)))))), fun xs M Φ h => ?_⟩
 replace h := XR h
 obtain ⟨x1, x2, x3, rfl, h⟩ := h
 replace h := Lu h
 obtain ⟨bs, rfl, h⟩ := h
 replace h := ZH h
 obtain ⟨f, rfl, h⟩ := h
 replace h := Mn h
 obtain ⟨ox, oy, rfl, hs, h⟩ := h
 walk_at "hd"
 walk_at "rk"
 intro q hq
 walk_at "hd"
 walk_at "rk"
 refine ⟨fun i Δ M' => ∃ k4 k5 k6, Δ = [some (.dat (.list (bs.map bD))), some (.dat (.int f)), some (.dat (.tuple [.int ox, .int oy])), some (.own q), k4, k5, k6] ∧ M' = ZE M q (.lst (((bs.take i).map (KH f ox oy)).map bD)), ⟨none, none, none, rfl, rfl⟩, ?_, ?_⟩
 ·rintro i d Δ M' hd ⟨k4, k5, k6, rfl, rfl⟩
  obtain ⟨b, eb, rfl⟩ := Gi hd
  have hb := hs.2.2 _ (List.mem_of_getElem? eb)
  unfold Grb at hb
  walk_at "rk"
  refine ⟨.inl (by omega), .inl (by omega), .inl (by omega), .inl (by omega), by rw [List.length_map, List.length_map, List.length_take]; have := hs.1.2; omega, _, _, _, rfl, ?_⟩
  rw [← take_snoc (KH f ox oy) eb, List.map_append]
  rfl
 ·rintro Δ M' ⟨k4, k5, k6, rfl, rfl⟩
  rw [List.length_map, List.take_length]
  subst_vars
  walk_at "rk"
  exact Mb hq h
theorem Uh (T : Tx K mg) : ZX P w K mg base CX0 3 T.VL T.VI ["_law_pen"] (lift K VD) := by
 have G_take : ZX P w K mg base CX0 1 T.VG T.VC ["_law_pen", "_law_many"] (lift K Vg) := VH T
 have G_wide : ZX P w K mg base CX0 2 T.UJ T.Gj ["_law_pen", "_law_many"] (lift K Bt) := FY T
 refine okD T.JE.F Q3 (fun xs M Φ h => by obtain ⟨_, rfl, _⟩ := Zm h; rfl) fun cdv A outer s H E hr => ⟨_, (Zf (ZK 1 Q3.nd (Zs (WW (Za Zc (Za Zc (Za Zc (Za Zc (Za Zc (Za (Zj J7 Zc Zc) Zd))))))) (Zg G_take (hr.mono (by first | decide | omega)) rfl T.Zh.m T.Zh.F.kp T.Zh.b Zr (Za (Zb 0) (Za Zc Zd)))))
 (Zf (ZK 2 Q3.nd (Zs (WW (Za (QY (Za Zc (Za Zc Zd))) (Za (QY (Za (Zj QW (Zg G_take (hr.mono (by first | decide | omega)) rfl T.Zh.m T.Zh.F.kp T.Zh.b Zr (Za (Zb 0) (Za Zc Zd))) Zc) (Za (Zj QW (Zg G_take (hr.mono (by first | decide | omega)) rfl T.Zh.m T.Zh.F.kp T.Zh.b Zr (Za (Zb 0) (Za Zc Zd))) Zc) Zd))) Zd))) (Zg G_take (hr.mono (by first | decide | omega)) rfl T.Zh.m T.Zh.F.kp T.Zh.b Zr (Za (Zb 0) (Za Zc Zd)))))
 (Zf (Jx (QR (Fl hr) (Zb 1) (Zj J7 Zc Zc)) (Zi (ZK 2 Q3.nd (QY (Za (Zg G_wide (hr.mono (by first | decide | omega)) rfl T.VE.m T.VE.F.kp T.VE.b Zr (Za (Zb 0) (Za (Zj J7 Zc Zc) Zd))) (Za (Zj QW Zc (Zg G_wide (hr.mono (by first | decide | omega)) rfl T.VE.m T.VE.F.kp T.VE.b Zr (Za (Zb 0) (Za (Zj J7 Zc Zc) Zd)))) Zd))))) Z0)
 (Zi (Zz (QY (Za (Zb 1) (Za (Zb 2) Zd)))))))), fun xs M Φ h => ?_⟩
 replace h := Zm h
 obtain ⟨x1, rfl, h⟩ := h
 replace h := Q0 h
 obtain ⟨p, rfl, hp, h⟩ := h
 walk_at "hd"
 walk_at "rk"
 refine ⟨Ff _ (by decide), hp, fun r1 M1 a1 b1 f1 => tab (l := [1, 1, 1, 2, 1000, 10000000000]) (fun t => 1 ≤ t ∧ t ≤ 10000000000) a1 (by simp only [List.length_cons, List.length_nil]; omega) (by decide) fun f hf => ?_⟩
 walk_at "hd"
 walk_at "rk"
 refine ⟨f1.1, fun x M2 a2 b2 f2 => ⟨f2.1, fun y M3 a3 b3 f3 => ⟨f3.1, fun r4 M4 a4 b4 f4 => ?_⟩⟩⟩
 have F := ((f1.trans f2).trans f3).trans f4
 have two : ∃ ox oy : Int, (-20 ≤ ox ∧ ox ≤ 20) ∧ (-20 ≤ oy ∧ oy ≤ 20) ∧ ∀ P : PyData → Prop, Y3 [.tuple [.int 0, .int 0], .tuple [.int (x - 20), .int (y - 20)]] r4 P = P (.tuple [.int ox, .int oy]) := by
  have : r4 = 0 ∨ r4 = 1 := by omega
  rcases this with rfl | rfl
  ·exact ⟨0, 0, by omega, by omega, fun P => rfl⟩
  ·exact ⟨x - 20, y - 20, by omega, by omega, fun P => rfl⟩
 obtain ⟨ox, oy, hx, hy, e⟩ := two
 rw [e]
 clear e
 walk_at "hd"
 walk_at "rk"
 refine ⟨Ff _ (by decide), Zw (fun z => ?_) fun z => ?_⟩
 ·walk_at "rk"
  refine ⟨Ff _ (by decide), f4.1, fun u M5 a5 b5 f5 => ⟨Ff _ (by decide), f5.1, fun v M6 a6 b6 f6 => ?_⟩⟩
  subst_vars
  walk_at "rk"
  exact h _ _ _ _ ⟨by omega, by omega, by omega⟩ ((F.trans f5).trans f6)
 ·subst_vars
  walk_at "rk"
  exact h _ _ _ _ ⟨hf, by omega, by omega⟩ F
theorem VM (T : Tx K mg) : ZX P w K mg base CX0 1 T.Jd T.Q5 ["thing"] (lift K YO) := by
 refine okD T.ZN.F K6 (fun xs M Φ h => by obtain ⟨_, rfl, _⟩ := Zm h; rfl) fun cdv A outer s H E hr => ⟨_, (Zf (Jx (JF (Jl (Gh rfl T.ZJ Zy rfl T.V4 JM rfl T.Qb ZV (Zb 0)))) (Zi WG) Z0)
 (Zi (Zz (Zb 0)))), fun xs M Φ h => ?_⟩
 replace h := Zm h
 obtain ⟨x1, rfl, h⟩ := h
 have two : (∃ ds, x1 = .dat (.tuple ds) ∨ x1 = .dat (.list ds)) ∧ Φ x1 M := by
  unfold EX at h
  split at h
  ·exact ⟨⟨_, .inl rfl⟩, h⟩
  ·exact ⟨⟨_, .inr rfl⟩, h⟩
  ·exact h.elim
 obtain ⟨⟨ds, rfl | rfl⟩, h⟩ := two
 ·walk_at "rk"
  exact h
 ·walk_at "rk"
  exact h
theorem BC (T : Tx K mg) : ZX P w K mg base CX0 2 T.YE T.Yv ["thing"] (lift K K5) := by
 have G_parts_of : ZX P w K mg base CX0 1 T.Jd T.Q5 ["thing"] (lift K YO) := VM T
 refine okD T.Vc.F UL (fun xs M Φ h => by obtain ⟨_, rfl, _⟩ := Zm h; rfl) fun cdv A outer s H E hr => ⟨_, (Zi (Zz (ZL Qo rfl T.Qb ZV (Za (Dg false (QZ (sc := Ze QI) (XN := ["thing"]) (N := ["corner"]) (ix := [none]) rfl rfl (by decide +kernel)) (Mh (Zg G_parts_of (hr.mono (by first | decide | omega)) rfl T.ZN.m T.ZN.F.kp T.ZN.b Zr (Za (Zb 0) Zd))) (fun C ex s H => (ZR 0 (show List.Nodup (["corner"] : List Str) by decide +kernel))) (fun C ex s H => VR) (fun C ex s H => (ZL Qo rfl T.Qb ZV (Za (Zg G_parts_of (hr.mono (by first | decide | omega)) rfl T.ZN.m T.ZN.F.kp T.ZN.b Zr (Za (Zb 0) Zd)) Zd))) rfl) Zd)))), fun xs M Φ h => ?_⟩
 replace h := Zm h
 obtain ⟨x1, rfl, h⟩ := h
 obtain ⟨d, b, rfl, ⟨k, c1, c2, rfl, ⟨k1, rfl⟩, ⟨k2, rfl⟩⟩, h⟩ := h
 cases k <;> cases k1 <;> cases k2 <;> (walk_at "rk"; exact h)
theorem Wf (T : Tx K mg) : ZX P w K mg base CX0 6 T.JX T.JP ["things"] (lift K VJ) := by
 have G_is_shape : ZX P w K mg base CX0 5 T.Q2 T.Jc ["thing"] (lift K YC) := Vk T
 have G_box_of : ZX P w K mg base CX0 2 T.YE T.Yv ["thing"] (lift K K5) := BC T
 have G_parts_of : ZX P w K mg base CX0 1 T.Jd T.Q5 ["thing"] (lift K YO) := VM T
 refine okD T.ZP.F Vo (fun xs M Φ h => by obtain ⟨_, rfl, _⟩ := Zm h; rfl) fun cdv A outer s H E hr => ⟨_, (Zf (ZK 1 Vo.nd (ZL Qo rfl T.Qb ZV (Za (Yt false (QZ (sc := Ze Z8) (XN := ["things", "shape"]) (N := ["thing"]) (ix := [none]) rfl rfl (by decide +kernel)) (Mh (Zg G_parts_of (hr.mono (by first | decide | omega)) rfl T.ZN.m T.ZN.F.kp T.ZN.b Zr (Za (Zb 0) Zd))) (fun C ex s H => (ZR 0 (show List.Nodup (["thing"] : List Str) by decide +kernel))) (fun C ex s H => VR) (fun C ex s H => (Zg G_box_of (hr.mono (by first | decide | omega)) rfl T.Vc.m T.Vc.F.kp T.Vc.b Zr (Za (Zb 0) Zd))) rfl) Zd)))
 (Zf (Jx (JF (Jl (Zg G_is_shape (hr.mono (by first | decide | omega)) rfl T.ZO.m T.ZO.F.kp T.ZO.b Zr (Za (Zb 1) Zd)))) (Zi WG) Z0)
 (Zi (Zz (Zb 1))))), fun xs M Φ h => ?_⟩
 replace h := Zm h
 obtain ⟨x1, rfl, h⟩ := h
 obtain ⟨d, bs, rfl, ⟨k, ds, rfl, hds⟩, hs, h⟩ := h
 have hl := hs.1
 have ln := hds.len
 have q := Ym hs
 cases k
 ·walk_at "hd"
  walk_at "rk"
  refine ⟨by omega, fun i acc M' => acc = (bs.take i).map bD ∧ M' = M, ⟨rfl, rfl⟩, ?_, ?_⟩
  ·rintro i d acc M' hd ⟨rfl, rfl⟩
   obtain ⟨b, eb, hb⟩ := hds.get hd
   walk_at "rk"
   refine ⟨d, b, rfl, hb, ?_⟩
   first | exact ⟨take_snoc bD eb, rfl⟩ | exact take_snoc bD eb
  ·rintro acc M' ⟨rfl, rfl⟩
   rw [ln, List.take_length]
   subst_vars
   walk_at "rk"
   rw [q]
   walk_at "rk"
   exact h
 ·walk_at "hd"
  walk_at "rk"
  refine ⟨by omega, fun i acc M' => acc = (bs.take i).map bD ∧ M' = M, ⟨rfl, rfl⟩, ?_, ?_⟩
  ·rintro i d acc M' hd ⟨rfl, rfl⟩
   obtain ⟨b, eb, hb⟩ := hds.get hd
   walk_at "rk"
   refine ⟨d, b, rfl, hb, ?_⟩
   first | exact ⟨take_snoc bD eb, rfl⟩ | exact take_snoc bD eb
  ·rintro acc M' ⟨rfl, rfl⟩
   rw [ln, List.take_length]
   subst_vars
   walk_at "rk"
   rw [q]
   walk_at "rk"
   exact h
theorem Hk (T : Tx K mg) : ZX P w K mg base CX0 1 T.GR T.Gb ["_law_found", "_law_due"] (lift K G8) := by
 refine okD T.QD.F Ht (fun xs M Φ h => by obtain ⟨_, _, rfl, _⟩ := Qr h; rfl) fun cdv A outer s H E hr => ⟨_, (Zi (Zz (QM (V7 (Mw hr) (Zb 0) (Zb 1)) (J4 (V7 (MO hr) (Zk (BW hr) rfl T.Wi YZ (Za (Zb 0) Zd)) (Zk (Kr hr) rfl T.Wi YZ (Za (Zb 1) Zd))))))), fun xs M Φ h => ?_⟩
 replace h := Qr h
 obtain ⟨x1, x2, rfl, h⟩ := h
 obtain ⟨bs, rfl, rfl, hs, h⟩ := h
 obtain ⟨h1, h2, h3⟩ := Es hs
 generalize PyData.tuple (bs.map bD) = d at h1 h2 h3 ⊢
 walk_at "rk"
 rw [h2, if_pos rfl]
 refine ⟨h1, h3, h3, ?_⟩
 rw [show isS (PyData.str d.shown) d.shown = true from decide_eq_true rfl]
 exact h
theorem GY (T : Tx K mg) : ZX P w K mg base CX0 2 T.YX T.YI ["_law_pen", "_law_boxes_here"] (lift K Yu) := by
 have G_take : ZX P w K mg base CX0 1 T.VG T.VC ["_law_pen", "_law_many"] (lift K Vg) := VH T
 refine okD T.Ve.F QS (fun xs M Φ h => by obtain ⟨_, _, rfl, _⟩ := Qr h; rfl) fun cdv A outer s H E hr => ⟨_, (Zf (ZK 2 QS.nd (U9 0 Zd))
 (Zf (HD (Zb 1) (WM (n := 2) rfl (Qz (ZR 3 QS.nd) (Qz (ZR 4 QS.nd) Y0))) (Zf (ZK 5 QS.nd (U9 0 (Za (YM (Za (Zb 3) (Za (ZL (WD 0) rfl T.V4 JM (Za (Zb 3) Zd)) Zd)) (Zg G_take (hr.mono (by first | decide | omega)) rfl T.Zh.m T.Zh.F.kp T.Zh.b Zr (Za (Zb 0) (Za Zc Zd)))) (Za (YM (Za (Zb 4) (Za (ZL (WD 0) rfl T.V4 JM (Za (Zb 4) Zd)) Zd)) (Zg G_take (hr.mono (by first | decide | omega)) rfl T.Zh.m T.Zh.F.kp T.Zh.b Zr (Za (Zb 0) (Za Zc Zd)))) Zd))))
 (Zi (Jo (Ye (Zb 2) (YM (Za (Zb 5) (Za (ZL Bk rfl T.Qb ZV (Za (Zb 5) Zd)) Zd)) (Zg G_take (hr.mono (by first | decide | omega)) rfl T.Zh.m T.Zh.F.kp T.Zh.b Zr (Za (Zb 0) (Za Zc Zd)))))))) PassesOwn.never rfl)
 (Zi (Zz (YM (Za (Zb 2) (Za (ZL Bk rfl T.Qb ZV (Za (Zb 2) Zd)) Zd)) (Zg G_take (hr.mono (by first | decide | omega)) rfl T.Zh.m T.Zh.F.kp T.Zh.b Zr (Za (Zb 0) (Za Zc Zd)))))))), fun xs M Φ h => ?_⟩
 replace h := Qr h
 obtain ⟨x1, x2, rfl, h⟩ := h
 replace h := Q0 h
 obtain ⟨p, rfl, h⟩ := h
 replace h := GK h
 obtain ⟨bs, rfl, hs, hp, h⟩ := h
 have hl := hs.1
 walk_at "hd"
 walk_at "rk"
 refine ⟨rfl, fun q hq => ?_⟩
 have qp : q ≠ p := Ne.symm (hp.ne hq)
 walk_at "hd"
 walk_at "rk"
 refine ⟨fun i Δ M' => ∃ (k3 k4 k5 : Option DV) (ys : List DV) (as : List Addr) (ds : List PyData), Δ = [some (.own p), some (.dat (.tuple (bs.map bD))), some (.own q), k3, k4, k5] ∧ Tas (Ta M' 3) ys as ds ∧ HBs ds (bs.take i) ∧ M' q = some (.lsv 0 ys) ∧ q ∉ as ∧ p ∉ as ∧ Pen M' p,
  ⟨none, none, none, [], [], [], rfl, .nil, by rw [List.take_zero]; exact .nil, Z4, List.not_mem_nil, List.not_mem_nil, hp.put (Ne.symm qp)⟩, ?_, ?_⟩
 ·rintro i d Δ M1 hd ⟨k3, k4, k5, ys, as, ds, rfl, ht, hb, hq1, hqa, hpa, hP⟩
  obtain ⟨b, eb, rfl⟩ := Gi hd
  walk_at "rk"
  intro r1 hr1
  have p1 : p ≠ r1 := hP.ne hr1
  refine ⟨rfl, hP.put p1, fun j1 M2 a1 b1 f1 => ?_⟩
  obtain ⟨x1, ex1, hx1⟩ := WQ a1 b1
  refine ⟨x1, ex1, fun r2 hr2 => ?_⟩
  have p2 : p ≠ r2 := f1.1.ne hr2
  refine ⟨rfl, f1.1.put p2, fun j2 M3 a2 b2 f2 => ?_⟩
  obtain ⟨x2, ex2, hx2⟩ := WQ a2 b2
  refine ⟨x2, ex2, G1 hx1 (G1 hx2 ⟨rfl, fun r3 hr3 => ?_⟩)⟩
  have p3 : p ≠ r3 := f2.1.ne hr3
  have keep1 : ∀ a, a ≠ p → M1 a ≠ none → M2 a = M1 a := fun a => frn f1 hr1
  have keep2 : ∀ a, a ≠ p → M2 a ≠ none → M3 a = M2 a := fun a => frn f2 hr2
  have n2 : M1 r2 = none := frf keep1 (Ne.symm p2) hr2
  have n3' : M2 r3 = none := frf keep2 (Ne.symm p3) hr3
  have n3 : M1 r3 = none := frf keep1 (Ne.symm p3) n3'
  have q2 : M2 q = some (.lsv 0 ys) := by rw [keep1 q qp (by rw [hq1]; exact Option.some_ne_none _)]; exact hq1
  have q3 : M3 q = some (.lsv 0 ys) := by rw [keep2 q qp (by rw [q2]; exact Option.some_ne_none _)]; exact q2
  have m1 : M2 r1 = some (.lsv 0 [.dat (.int b.x), .dat (.int b.y)]) := f1.own Z4 (Ne.symm p1)
  have m1' : M3 r1 = some (.lsv 0 [.dat (.int b.x), .dat (.int b.y)]) := by rw [keep2 r1 (Ne.symm p1) (by rw [m1]; exact Option.some_ne_none _)]; exact m1
  have m2 : M3 r2 = some (.lsv 0 [.dat (.int b.X), .dat (.int b.Y)]) := f2.own Z4 (Ne.symm p2)
  obtain ⟨as1, d1, t1, k1, s1⟩ := Xs m1' hx1
  obtain ⟨as2, d2, t2, k2, s2⟩ := Xs m2 hx2
  have qr3 : q ≠ r3 := fun e => by rw [e, hr3] at q3; cases q3
  rw [show (ZE M3 r3 (OO.lsv 0 [x1, x2])) q = some (.lsv 0 ys) by rw [ZZ qr3]; exact q3, JG]
  refine .inl ⟨rfl, f2.1.put p3, fun j3 M5 a3 b3 f3 => ?_⟩
  obtain ⟨x3, ex3, hx3⟩ := WQ a3 b3
  refine ⟨x3, ex3, Lc hx3 ?_⟩
  have keep3 : ∀ a, a ≠ p → M3 a ≠ none → M5 a = M3 a := fun a => frn f3 hr3
  have q5 : M5 q = some (.lsv 0 ys) := by rw [keep3 q qp (by rw [q3]; exact Option.some_ne_none _)]; exact q3
  have m3 : M5 r3 = some (.lsv 0 [x1, x2]) := f3.own Z4 (Ne.symm p3)
  have c1 : ∀ a ∈ as1, a ≠ p ∧ M3 a ≠ none := fun a ha => ⟨by rw [s1 a ha]; exact Ne.symm p1, t1.asd.2 a ha⟩
  have c2 : ∀ a ∈ as2, a ≠ p ∧ M3 a ≠ none := fun a ha => ⟨by rw [s2 a ha]; exact Ne.symm p2, t2.asd.2 a ha⟩
  obtain ⟨cs, dd, t3, kb, s3⟩ := NL (b := b) (t1.congr fun a ha => keep3 a (c1 a ha).1 (c1 a ha).2) (t2.congr fun a ha => keep3 a (c2 a ha).1 (c2 a ha).2)
   (fun a ha hb => by rw [s1 a ha] at hb; have e := s2 r1 hb; rw [e, hr2] at m1; cases m1) k1 k2 m3 (fun ha => (c1 _ ha).2 hr3) (fun ha => (c2 _ ha).2 hr3) hx3
  have fresh : ∀ a ∈ cs, M1 a = none ∧ a ≠ p := fun a ha => by
   rcases s3 a ha with e | e | e
   ·rw [e]; exact ⟨n3, Ne.symm p3⟩
   ·rw [s1 a e]; exact ⟨hr1, Ne.symm p1⟩
   ·rw [s2 a e]; exact ⟨n2, Ne.symm p2⟩
  have own1 := ht.own
  have keepA : ∀ a ∈ as, M5 a = M1 a := fun a ha => by
   have ap : a ≠ p := fun e => hpa (by rw [← e]; exact ha)
   have e1 := keep1 a ap (own1 a ha)
   have e2 := keep2 a ap (by rw [e1]; exact own1 a ha)
   have e3 := keep3 a ap (by rw [e2, e1]; exact own1 a ha)
   rw [e3, e2, e1]
  have qcs : q ∉ cs := fun e => by rw [(fresh q e).1] at hq1; cases hq1
  have lt := List.length_take (i := i) (l := bs)
  have ly : ys.length ≤ 6 := by rw [ht.len, hb.len]; omega
  rw [q5, JG]
  refine ⟨by omega, _, _, _, ys ++ [x3], as ++ cs, ds ++ [dd], rfl, ?_, ?_, by first | rfl | exact Z4, ?_, ?_, f3.1.put (Ne.symm qp)⟩
  ·refine Tas.snoc (ht.imp fun x bs' d hs t => t.congr fun a ha => ?_) (t3.congr fun a ha => ZZ fun e => qcs (by rw [← e]; exact ha)) fun a ha hc => own1 a ha (fresh a hc).1
   rw [ZZ fun e => hqa (by rw [← e]; exact hs a ha)]
   exact keepA a (hs a ha)
  ·rw [List.take_succ, eb]
   exact hb.snoc kb
  ·exact fun e => (List.mem_append.mp e).elim hqa qcs
  ·exact fun e => (List.mem_append.mp e).elim hpa fun e => (fresh p e).2 rfl
 ·rintro Δ M1 ⟨k3, k4, k5, ys, as, ds, rfl, ht, hb, hq1, hqa, hpa, hP⟩
  rw [List.length_map, List.take_length] at hb
  subst_vars
  walk_at "rk"
  rw [hq1, JG]
  refine .inl ⟨rfl, hP, fun j M2 a1 b1 f => ?_⟩
  obtain ⟨x, ex, hx⟩ := WQ a1 b1
  have k := fun a ha => f.2 a (fun e => hpa (by rw [← e]; exact ha)) (ht.own a ha)
  obtain ⟨cs, d, t, kk, s⟩ := NR (ht.imp fun x bs' d hs t => t.congr fun a ha => k a (hs a ha)) hb hl.2 (f.own hq1 qp) hqa hx
  exact ⟨x, ex, h x cs d M2 t kk (fun e => (s p e).elim (fun e => qp e.symm) hpa) f.1⟩
theorem CI (T : Tx K mg) (n : Nat) : ZX P w K mg base CX0 (1 + n) T.VQ T.Vh ["_law_thing"] (lift K (JV n)) := by
 refine Nat.rec (motive := fun n => ZX P w K mg base CX0 (1 + n) T.VQ T.Vh ["_law_thing"] (lift K (JV n))) ?_ (fun n G_spoil => ?_) n
 ·exact Oh Xk
 show ZX P w K mg base CX0 (1 + n + 1) T.VQ T.Vh ["_law_thing"] (lift K (JV (n + 1)))
 refine okD T.Jr.F WR (fun xs M Φ h => by obtain ⟨_, rfl, _⟩ := Zm h; rfl) fun cdv A outer s H E hr => ⟨_, (Zf (Jx (Jl (WE 0 (Gh rfl T.ZJ Zy rfl T.V4 JM rfl T.Qb ZV (Zb 0)))) (Zi (HK (Zb 0) (ZR 1 WR.nd) (Zi (Jo (Zg G_spoil (hr.mono (by first | decide | omega)) rfl T.Jr.m T.Jr.F.kp T.Jr.b Zr (Za (Zb 1) Zd)))) PassesOwn.never rfl)) Z0)
 (Zi (Jx (Jl (Zk Hu rfl T.ZJ Zy (Za (Zb 0) (Za (UC rfl T.V4 JM) Zd)))) (Zf (Jo (KL (Zb 0)))
 (Zi (Jo (Ye (Zb 0) Zc)))) Z0))), fun xs M Φ h => ?_⟩
 replace h := Zm h
 obtain ⟨x1, rfl, h⟩ := h
 obtain ⟨as, d, ht, h⟩ := h
 have hd := ht.asd.1
 rcases ht with ⟨i, rfl, rfl, rfl⟩ | ⟨ds, rfl, rfl, rfl, h4⟩ | ⟨xs, ds, rfl, rfl, h3⟩ | ⟨a, xs, bs, ds, rfl, rfl, rfl, h4, h5, h6, h7⟩
 ·walk_at "rk"
  refine ⟨_, hd, ?_⟩
  walk_at "rk"
  exact h M fun _ _ => rfl
 ·walk_at "hd"
  walk_at "rk"
  refine ⟨_, hd, ?_⟩
  walk_at "rk"
  refine ⟨fun i Δ M1 => ∃ k, Δ = [some (.dat (.tuple ds)), k] ∧ Jp M n (ds.map DV.dat) [] i M1, fun _ _ _ _ => trivial, ⟨none, rfl, Jp.zero h4⟩, ?_, ?_⟩
  ·rintro i y Δ M1 hy ⟨k, rfl, j⟩
   obtain ⟨as, e, t, f⟩ := j.turn hy
   walk_at "rk"
   exact ⟨as, e, t, fun M' q => ⟨_, rfl, f M' q⟩⟩
  ·rintro Δ M1 ⟨k, rfl, j⟩
   subst_vars
   walk_at "rk"
   exact h M1 j.keep
 ·walk_at "hd"
  walk_at "rk"
  refine ⟨_, hd, ?_⟩
  walk_at "rk"
  refine ⟨fun i Δ M1 => ∃ k, Δ = [some (.mix xs), k] ∧ Jp M n xs as i M1, fun _ _ _ _ => trivial, ⟨none, rfl, Jp.zero h3⟩, ?_, ?_⟩
  ·rintro i y Δ M1 hy ⟨k, rfl, j⟩
   obtain ⟨as, e, t, f⟩ := j.turn hy
   walk_at "rk"
   exact ⟨as, e, t, fun M' q => ⟨_, rfl, f M' q⟩⟩
  ·rintro Δ M1 ⟨k, rfl, j⟩
   subst_vars
   walk_at "rk"
   exact h M1 j.keep
 ·rw [sizeLine_eq] at h6
  walk_at "hd"
  walk_at "rk"
  refine ⟨_, hd, ?_⟩
  walk_at "rk"
  rw [h4]
  walk_at "rk"
  refine ⟨fun i Δ M1 => ∃ k, Δ = [some (.own a), k] ∧ Jp M n xs bs i M1, fun i Δ M1 ⟨k, _, j⟩ => (j.keep a h5).trans h4, ⟨none, rfl, Jp.zero h7⟩, ?_, ?_⟩
  ·rintro i y Δ M1 hy ⟨k, rfl, j⟩
   obtain ⟨as, e, t, f⟩ := j.turn hy
   walk_at "rk"
   exact ⟨as, e, t, fun M' q => ⟨_, rfl, f M' q⟩⟩
  ·rintro Δ M1 ⟨k, rfl, j⟩
   have e := (j.keep a h5).trans h4
   subst_vars
   walk_at "rk"
   rw [e]
   walk_at "rk"
   refine ⟨by rw [List.length_reverse]; exact h6, h _ fun b hb => ?_⟩
   rw [ZZ fun e => hb (by rw [e]; exact List.mem_cons_self)]
   exact j.keep b fun e => hb (List.mem_cons_of_mem _ e)
theorem Pe (T : Tx K mg) : ZX P w K mg base CX0 7 T.NU T.PF ["_law_script"] (lift K G9) := by
 have G_stretch : ZX P w K mg base CX0 3 T.VL T.VI ["_law_pen"] (lift K VD) := Uh T
 have G_stretched : ZX P w K mg base CX0 1 T.Jn T.Js ["_law_boxes_here", "_law_by", "_law_off"] (lift K JC) := XU T
 have G_handed : ZX P w K mg base CX0 2 T.YX T.YI ["_law_pen", "_law_boxes_here"] (lift K Yu) := GY T
 have G_shape_of : ZX P w K mg base CX0 6 T.JX T.JP ["things"] (lift K VJ) := Wf T
 have G_spoil : ZX P w K mg base CX0 5 T.VQ T.Vh ["_law_thing"] (lift K (JV 4)) := CI T 4
 have G_boxes : ZX P w K mg base CX0 2 T.Kn T.K2 ["_law_pen", "_law_most"] (lift K K3) := Ci T
 have G_take : ZX P w K mg base CX0 1 T.VG T.VC ["_law_pen", "_law_many"] (lift K Vg) := VH T
 have G_same : ZX P w K mg base CX0 1 T.GR T.Gb ["_law_found", "_law_due"] (lift K G8) := Hk T
 have G_is_shape : ZX P w K mg base CX0 5 T.Q2 T.Jc ["thing"] (lift K YC) := Vk T
 refine okD T.o_law.F Jh (fun xs M Φ ⟨ns, e, _⟩ => by rw [e]; rfl) fun cdv A outer s H E hr => ⟨_, (Zf (ZK 1 Jh.nd (Kk (Za (Zb 0) (Za Zc (Za Zc Zd)))))
 (Zf (YF rfl T.VP (Za Zc Zd) (ZR 2 Jh.nd) (Zf (Xl (Zg G_stretch (hr.mono (by first | decide | omega)) rfl T.JE.m T.JE.F.kp T.JE.b Zr (Za (Zb 1) Zd)) (WM (n := 2) rfl (Qz (ZR 7 Jh.nd) (Qz (ZR 8 Jh.nd) Y0))))
 (Zf (ZK 3 Jh.nd (Zg G_stretched (hr.mono (by first | decide | omega)) rfl T.QJ.m T.QJ.F.kp T.QJ.b Zr (Za (Zg G_boxes (hr.mono (by first | decide | omega)) rfl T.Yy.m T.Yy.F.kp T.Yy.b Zr (Za (Zb 1) (Za Zc Zd))) (Za (Zb 7) (Za (Zb 8) Zd)))))
 (Zf (Jx (QR (Fl hr) (Zg G_take (hr.mono (by first | decide | omega)) rfl T.Zh.m T.Zh.F.kp T.Zh.b Zr (Za (Zb 1) (Za Zc Zd))) Zc) (Zi (ZK 3 Jh.nd (Ja (Zj DQ (Zb 3) (Ja (Zb 3) (Yn (Bd Zc)) YG)) YG (Yn Zc)))) Z0)
 (Zf (ZK 4 Jh.nd (Zg G_handed (hr.mono (by first | decide | omega)) rfl T.Ve.m T.Ve.F.kp T.Ve.b Zr (Za (Zb 1) (Za (Zb 3) Zd))))
 (Zf (ZK 5 Jh.nd (WE 4 (Zk (Kr hr) rfl T.Wi YZ (Za (Zb 4) Zd))))
 (Zf (ZK 6 Jh.nd (WE 4 (Zg G_shape_of (hr.mono (by first | decide | omega)) rfl T.ZP.m T.ZP.F.kp T.ZP.b Zr (Za (Zb 4) Zd))))
 (Zf (Jx (DW.dt (Uv (JF (Jl (Zg G_same (hr.mono (by first | decide | omega)) rfl T.QD.m T.QD.F.kp T.QD.b Zr (Za (Zb 6) (Za (Zb 3) Zd))))) (Uv (QR Pb (WE 4 (Zk (Kr hr) rfl T.Wi YZ (Za (Zb 4) Zd))) (Zb 5)) (XI (QR X8 (Zg G_is_shape (hr.mono (by first | decide | omega)) rfl T.ZO.m T.ZO.F.kp T.ZO.b Zr (Za (Zb 6) Zd)) Xj))))) (Zi (Zz Xj)) Z0)
 (Zf (Jo (Zg G_spoil (hr.mono (by first | decide | omega)) rfl T.Jr.m T.Jr.F.kp T.Jr.b Zr (Za (Zb 4) Zd)))
 (Zf (Jx (DW.dt (Uv (JF (Jl (Zg G_same (hr.mono (by first | decide | omega)) rfl T.QD.m T.QD.F.kp T.QD.b Zr (Za (Zb 6) (Za (Zb 3) Zd))))) (XI (QR X8 (Zg G_is_shape (hr.mono (by first | decide | omega)) rfl T.ZO.m T.ZO.F.kp T.ZO.b Zr (Za (Zb 6) Zd)) Xj)))) (Zi (Zz Xj)) Z0)
 (Zi (Jx (DW.dt (Uv (JF (Jl (Zg G_same (hr.mono (by first | decide | omega)) rfl T.QD.m T.QD.F.kp T.QD.b Zr (Za (Zg G_shape_of (hr.mono (by first | decide | omega)) rfl T.ZP.m T.ZP.F.kp T.ZP.b Zr (Za (Zb 6) Zd)) (Za (Zb 3) Zd))))) (XI (JF (Jl (Zg G_same (hr.mono (by first | decide | omega)) rfl T.QD.m T.QD.F.kp T.QD.b Zr (Za (Zg G_shape_of (hr.mono (by first | decide | omega)) rfl T.ZP.m T.ZP.F.kp T.ZP.b Zr (Za (ZL Bz rfl T.V4 JM (Za (Ja (Zb 6) YG (Yn Zc)) Zd)) Zd)) (Za (Ja (Zb 3) YG (Yn Zc)) Zd)))))))) (Zi (Zz Xj)) Z0))))))))))) PassesOwn.never rfl)
 (Zi (Zz Xj)))), fun xs M Φ ⟨ns, e, hn, h⟩ => ?_⟩
 subst e
 walk_at "hd"
 walk_at "rk"
 intro p hp
 walk_at "hd"
 walk_at "rk"
 refine ⟨⟨by decide, by decide⟩, fun i Δ M' => ∃ k2 k3 k4 k5 k6 k7 k8 : Option DV, Δ = [some (.dat (.list (ns.map PyData.int))), some (.own p), k2, k3, k4, k5, k6, k7, k8] ∧ Pen M' p, ⟨_, _, _, _, _, _, _, rfl, Pen.ZE ⟨ns, 0, 0, Int.le_refl 0, rfl⟩⟩, ?_, ?_⟩
 ·rintro i Δ M1 hi ⟨k2, k3, k4, k5, k6, k7, k8, rfl, hP⟩
  rw [YQ]
  walk_at "hd"
  walk_at "rk"
  refine ⟨hP, fun f ox oy M2 hf f2 => ?_⟩
  walk_at "hd"
  walk_at "rk"
  refine ⟨f2.1, fun bs0 M3 hbs f3 => ⟨hbs, ?_⟩⟩
  have hs0 := HV hbs hf
  generalize bs0.map (KH f ox oy) = bs at hs0 ⊢
  walk_at "hd"
  rename_i R hR
  walk_at "rk"
  refine ⟨f3.1, fun r M4 a4 b4 f4 => ?_⟩
  refine Nm (F := fun d => R _ [_, _, _, some (.dat d), _, _, _, _, _] M4) hs0 fun cs hs => ?_
  walk_at "hd"
  walk_at "rk"
  refine ⟨hs, f4.1, fun t as d M5 ht hd hpa hP5 => ?_⟩
  have ha := ht.asd.1
  have hw := Mm hd hs
  have q := Ym hs
  walk_at "hd"
  walk_at "rk"
  refine ⟨d, ha, hw, ?_⟩
  walk_at "hd"
  walk_at "rk"
  refine ⟨d, ha, d, cs, rfl, hd, hs, UD cs, ?_⟩
  walk_at "hd"
  walk_at "rk"
  refine ⟨cs, rfl, rfl, hs, d, ha, hw, ?_⟩
  rw [q, decide_eq_true rfl]
  walk_at "rk"
  walk_at "hd"
  walk_at "rk"
  refine ⟨as, d, ht, fun M6 k6 => ?_⟩
  have hP6 : Pen M6 p := by
   obtain ⟨o, g1, g2⟩ := hP5
   exact ⟨o, g1, by rw [k6 p hpa]; exact g2⟩
  walk_at "hd"
  walk_at "rk"
  refine ⟨cs, rfl, rfl, hs, ?_⟩
  rw [q]
  walk_at "rk"
  have e1 : DL.cutD (cs.map bD) none (some 1) = (cs.take 1).map bD := by rw [show (1 : Int) = ((1 : Nat) : Int) from rfl, EF, List.map_take]
  have h1 := hs.take (n := 1) (Nat.le_refl 1)
  subst_vars
  walk_at "rk"
  refine ⟨_, cs, rfl, ⟨false, _, rfl, HBs.self cs⟩, hs, cs, rfl, rfl, hs, ?_⟩
  rw [e1]
  refine ⟨_, cs.take 1, rfl, ⟨true, _, rfl, HBs.self _⟩, h1, cs.take 1, rfl, rfl, h1, ?_⟩
  exact ⟨_, _, _, _, _, _, _, rfl, hP6⟩
 ·rintro Δ M1 ⟨k2, k3, k4, k5, k6, k7, k8, rfl, hP⟩
  subst_vars
  walk_at "rk"
  exact h _
end
theorem JI {α : Type} {l : List α} (h : l.length = 1) : ∃ a0, l = [a0] := by
 match l, h with
 | [a0], _ => exact ⟨a0, rfl⟩
theorem Uz {α : Type} {l : List α} (h : l.length = 2) : ∃ a0 a1, l = [a0, a1] := by
 match l, h with
 | [a0, a1], _ => exact ⟨a0, a1, rfl⟩
theorem ON {α : Type} {l : List α} (h : l.length = 3) : ∃ a0 a1 a2, l = [a0, a1, a2] := by
 match l, h with
 | [a0, a1, a2], _ => exact ⟨a0, a1, a2, rfl⟩
theorem all_mk {l : PySem.W.OpenLaw} {w : World} {K : PySem.W.Frag} {h : Heap} {mg : Str → Option Value} {fa : Addr} (X : K.In h) (G : h.Ns mainGlobals mg) (hfa : mg "law" = some (.ref fa))
  {f0 : Addr} {od0 an0 : Option Addr} {sl0 : Array (Option Value)} {oc0 kV0 dc0 pm0 cd0 ct0 : Value} {f1 : Addr} {od1 an1 : Option Addr} {sl1 : Array (Option Value)} {oc1 kV1 dc1 pm1 cd1 ct1 : Value} {f2 : Addr} {od2 an2 : Option Addr} {sl2 : Array (Option Value)} {oc2 kV2 dc2 pm2 cd2 ct2 : Value} {f3 : Addr} {od3 an3 : Option Addr} {sl3 : Array (Option Value)} {oc3 kV3 dc3 pm3 cd3 ct3 : Value} {f4 : Addr} {od4 an4 : Option Addr} {sl4 : Array (Option Value)} {oc4 kV4 dc4 pm4 cd4 ct4 : Value} {f5 : Addr} {od5 an5 : Option Addr} {sl5 : Array (Option Value)} {oc5 kV5 dc5 pm5 cd5 ct5 : Value} {f6 : Addr} {od6 an6 : Option Addr} {sl6 : Array (Option Value)} {oc6 kV6 dc6 pm6 cd6 ct6 : Value} {f7 : Addr} {od7 an7 : Option Addr} {sl7 : Array (Option Value)} {oc7 kV7 dc7 pm7 cd7 ct7 : Value} {f8 : Addr} {od8 an8 : Option Addr} {sl8 : Array (Option Value)} {oc8 kV8 dc8 pm8 cd8 ct8 : Value} {f9 : Addr} {od9 an9 : Option Addr} {sl9 : Array (Option Value)} {oc9 kV9 dc9 pm9 cd9 ct9 : Value} {f10 : Addr} {od10 an10 : Option Addr} {sl10 : Array (Option Value)} {oc10 kV10 dc10 pm10 cd10 ct10 : Value} {f11 : Addr} {od11 an11 : Option Addr} {sl11 : Array (Option Value)} {oc11 kV11 dc11 pm11 cd11 ct11 : Value} {f12 : Addr} {od12 an12 : Option Addr} {sl12 : Array (Option Value)} {oc12 kV12 dc12 pm12 cd12 ct12 : Value} {f13 : Addr} {od13 an13 : Option Addr} {sl13 : Array (Option Value)} {oc13 kV13 dc13 pm13 cd13 ct13 : Value} {f14 : Addr} {od14 an14 : Option Addr} {sl14 : Array (Option Value)} {oc14 kV14 dc14 pm14 cd14 ct14 : Value} {f15 : Addr} {od15 an15 : Option Addr} {sl15 : Array (Option Value)} {oc15 kV15 dc15 pm15 cd15 ct15 : Value} {f16 : Addr} {od16 an16 : Option Addr} {sl16 : Array (Option Value)} {oc16 kV16 dc16 pm16 cd16 ct16 : Value} {f17 : Addr} {od17 an17 : Option Addr} {sl17 : Array (Option Value)} {oc17 kV17 dc17 pm17 cd17 ct17 : Value} {f18 : Addr} {od18 an18 : Option Addr} {sl18 : Array (Option Value)} {oc18 kV18 dc18 pm18 cd18 ct18 : Value} {f19 : Addr} {od19 an19 : Option Addr} {sl19 : Array (Option Value)} {oc19 kV19 dc19 pm19 cd19 ct19 : Value} {f20 : Addr} {od20 an20 : Option Addr} {sl20 : Array (Option Value)} {oc20 kV20 dc20 pm20 cd20 ct20 : Value} {f21 : Addr} {od21 an21 : Option Addr} {sl21 : Array (Option Value)} {oc21 kV21 dc21 pm21 cd21 ct21 : Value} {tk0 : Tok} {tk1 : Tok}
  (a0 : PySem.W.nsIn K mainGlobals "is_whole" = some (some (.ref f0))) (l0 : K.lookup f0 = some ⟨oc0, od0, .func (PySem.W.fnOf "is_whole" "is_whole" (Zu Qk) (Zn Qk) (Ze Qk) .none kV0 dc0 pm0 an0 cd0 ct0), sl0⟩) (c0 : PySem.W.codeIn K cd0 "is_whole" = true) (k0 : PySem.W.keepIn K (.ref f0) = true)
  (a1 : PySem.W.nsIn K mainGlobals "is_short" = some (some (.ref f1))) (l1 : K.lookup f1 = some ⟨oc1, od1, .func (PySem.W.fnOf "is_short" "is_short" (Zu Qm) (Zn Qm) (Ze Qm) .none kV1 dc1 pm1 an1 cd1 ct1), sl1⟩) (c1 : PySem.W.codeIn K cd1 "is_short" = true) (k1 : PySem.W.keepIn K (.ref f1) = true)
  (a2 : PySem.W.nsIn K mainGlobals "is_any_spot" = some (some (.ref f2))) (l2 : K.lookup f2 = some ⟨oc2, od2, .func (PySem.W.fnOf "is_any_spot" "is_any_spot" (Zu ZT) (Zn ZT) (Ze ZT) .none kV2 dc2 pm2 an2 cd2 ct2), sl2⟩) (c2 : PySem.W.codeIn K cd2 "is_any_spot" = true) (k2 : PySem.W.keepIn K (.ref f2) = true)
  (a3 : PySem.W.nsIn K mainGlobals "is_spot" = some (some (.ref f3))) (l3 : K.lookup f3 = some ⟨oc3, od3, .func (PySem.W.fnOf "is_spot" "is_spot" (Zu QB) (Zn QB) (Ze QB) .none kV3 dc3 pm3 an3 cd3 ct3), sl3⟩) (c3 : PySem.W.codeIn K cd3 "is_spot" = true) (k3 : PySem.W.keepIn K (.ref f3) = true)
  (a4 : PySem.W.nsIn K mainGlobals "is_box" = some (some (.ref f4))) (l4 : K.lookup f4 = some ⟨oc4, od4, .func (PySem.W.fnOf "is_box" "is_box" (Zu Jb) (Zn Jb) (Ze Jb) .none kV4 dc4 pm4 an4 cd4 ct4), sl4⟩) (c4 : PySem.W.codeIn K cd4 "is_box" = true) (k4 : PySem.W.keepIn K (.ref f4) = true)
  (a5 : PySem.W.nsIn K mainGlobals "has_spots" = some (some (.ref f5))) (l5 : K.lookup f5 = some ⟨oc5, od5, .func (PySem.W.fnOf "has_spots" "has_spots" (Zu Qd) (Zn Qd) (Ze Qd) .none kV5 dc5 pm5 an5 cd5 ct5), sl5⟩) (c5 : PySem.W.codeIn K cd5 "has_spots" = true) (k5 : PySem.W.keepIn K (.ref f5) = true)
  (a6 : PySem.W.nsIn K mainGlobals "steps_between" = some (some (.ref f6))) (l6 : K.lookup f6 = some ⟨oc6, od6, .func (PySem.W.fnOf "steps_between" "steps_between" (Zu ZI) (Zn ZI) (Ze ZI) .none kV6 dc6 pm6 an6 cd6 ct6), sl6⟩) (c6 : PySem.W.codeIn K cd6 "steps_between" = true) (k6 : PySem.W.keepIn K (.ref f6) = true)
  (a7 : PySem.W.nsIn K mainGlobals "gap" = some (some (.ref f7))) (l7 : K.lookup f7 = some ⟨oc7, od7, .func (PySem.W.fnOf "gap" "gap" (Zu Um) (Zn Um) (Ze Um) .none kV7 dc7 pm7 an7 cd7 ct7), sl7⟩) (c7 : PySem.W.codeIn K cd7 "gap" = true) (k7 : PySem.W.keepIn K (.ref f7) = true)
  (a8 : PySem.W.nsIn K mainGlobals "is_shape" = some (some (.ref f8))) (l8 : K.lookup f8 = some ⟨oc8, od8, .func (PySem.W.fnOf "is_shape" "is_shape" (Zu Qa) (Zn Qa) (Ze Qa) .none kV8 dc8 pm8 an8 cd8 ct8), sl8⟩) (c8 : PySem.W.codeIn K cd8 "is_shape" = true) (k8 : PySem.W.keepIn K (.ref f8) = true)
  (a9 : PySem.W.nsIn K mainGlobals "is_chain" = some (some (.ref f9))) (l9 : K.lookup f9 = some ⟨oc9, od9, .func (PySem.W.fnOf "is_chain" "is_chain" (Zu Qc) (Zn Qc) (Ze Qc) .none kV9 dc9 pm9 an9 cd9 ct9), sl9⟩) (c9 : PySem.W.codeIn K cd9 "is_chain" = true) (k9 : PySem.W.keepIn K (.ref f9) = true)
  (a10 : PySem.W.nsIn K mainGlobals "shape_of" = some (some (.ref f10))) (l10 : K.lookup f10 = some ⟨oc10, od10, .func (PySem.W.fnOf "shape_of" "shape_of" (Zu Z8) (Zn Z8) (Ze Z8) .none kV10 dc10 pm10 an10 cd10 ct10), sl10⟩) (c10 : PySem.W.codeIn K cd10 "shape_of" = true) (k10 : PySem.W.keepIn K (.ref f10) = true)
  (a11 : PySem.W.nsIn K mainGlobals "box_of" = some (some (.ref f11))) (l11 : K.lookup f11 = some ⟨oc11, od11, .func (PySem.W.fnOf "box_of" "box_of" (Zu QI) (Zn QI) (Ze QI) .none kV11 dc11 pm11 an11 cd11 ct11), sl11⟩) (c11 : PySem.W.codeIn K cd11 "box_of" = true) (k11 : PySem.W.keepIn K (.ref f11) = true)
  (a12 : PySem.W.nsIn K mainGlobals "parts_of" = some (some (.ref f12))) (l12 : K.lookup f12 = some ⟨oc12, od12, .func (PySem.W.fnOf "parts_of" "parts_of" (Zu Qn) (Zn Qn) (Ze Qn) .none kV12 dc12 pm12 an12 cd12 ct12), sl12⟩) (c12 : PySem.W.codeIn K cd12 "parts_of" = true) (k12 : PySem.W.keepIn K (.ref f12) = true)
  (a13 : PySem.W.nsIn K mainGlobals "_law_take" = some (some (.ref f13))) (l13 : K.lookup f13 = some ⟨oc13, od13, .func (PySem.W.fnOf "_law_take" "_law_take" (Zu V9) (Zn V9) (Ze V9) .none kV13 dc13 pm13 an13 cd13 ct13), sl13⟩) (c13 : PySem.W.codeIn K cd13 "_law_take" = true) (k13 : PySem.W.keepIn K (.ref f13) = true)
  (a14 : PySem.W.nsIn K mainGlobals "_law_wide" = some (some (.ref f14))) (l14 : K.lookup f14 = some ⟨oc14, od14, .func (PySem.W.fnOf "_law_wide" "_law_wide" (Zu VX) (Zn VX) (Ze VX) .none kV14 dc14 pm14 an14 cd14 ct14), sl14⟩) (c14 : PySem.W.codeIn K cd14 "_law_wide" = true) (k14 : PySem.W.keepIn K (.ref f14) = true)
  (a15 : PySem.W.nsIn K mainGlobals "_law_same" = some (some (.ref f15))) (l15 : K.lookup f15 = some ⟨oc15, od15, .func (PySem.W.fnOf "_law_same" "_law_same" (Zu s_same) (Zn s_same) (Ze s_same) .none kV15 dc15 pm15 an15 cd15 ct15), sl15⟩) (c15 : PySem.W.codeIn K cd15 "_law_same" = true) (k15 : PySem.W.keepIn K (.ref f15) = true)
  (a16 : PySem.W.nsIn K mainGlobals "_law_boxes" = some (some (.ref f16))) (l16 : K.lookup f16 = some ⟨oc16, od16, .func (PySem.W.fnOf "_law_boxes" "_law_boxes" (Zu JA) (Zn JA) (Ze JA) .none kV16 dc16 pm16 an16 cd16 ct16), sl16⟩) (c16 : PySem.W.codeIn K cd16 "_law_boxes" = true) (k16 : PySem.W.keepIn K (.ref f16) = true)
  (a17 : PySem.W.nsIn K mainGlobals "_law_stretched" = some (some (.ref f17))) (l17 : K.lookup f17 = some ⟨oc17, od17, .func (PySem.W.fnOf "_law_stretched" "_law_stretched" (Zu Z6) (Zn Z6) (Ze Z6) .none kV17 dc17 pm17 an17 cd17 ct17), sl17⟩) (c17 : PySem.W.codeIn K cd17 "_law_stretched" = true) (k17 : PySem.W.keepIn K (.ref f17) = true)
  (a18 : PySem.W.nsIn K mainGlobals "_law_stretch" = some (some (.ref f18))) (l18 : K.lookup f18 = some ⟨oc18, od18, .func (PySem.W.fnOf "_law_stretch" "_law_stretch" (Zu QC) (Zn QC) (Ze QC) .none kV18 dc18 pm18 an18 cd18 ct18), sl18⟩) (c18 : PySem.W.codeIn K cd18 "_law_stretch" = true) (k18 : PySem.W.keepIn K (.ref f18) = true)
  (a19 : PySem.W.nsIn K mainGlobals "_law_handed" = some (some (.ref f19))) (l19 : K.lookup f19 = some ⟨oc19, od19, .func (PySem.W.fnOf "_law_handed" "_law_handed" (Zu Q9) (Zn Q9) (Ze Q9) .none kV19 dc19 pm19 an19 cd19 ct19), sl19⟩) (c19 : PySem.W.codeIn K cd19 "_law_handed" = true) (k19 : PySem.W.keepIn K (.ref f19) = true)
  (a20 : PySem.W.nsIn K mainGlobals "_law_spoil" = some (some (.ref f20))) (l20 : K.lookup f20 = some ⟨oc20, od20, .func (PySem.W.fnOf "_law_spoil" "_law_spoil" (Zu JY) (Zn JY) (Ze JY) .none kV20 dc20 pm20 an20 cd20 ct20), sl20⟩) (c20 : PySem.W.codeIn K cd20 "_law_spoil" = true) (k20 : PySem.W.keepIn K (.ref f20) = true)
  (a21 : PySem.W.nsIn K mainGlobals "law" = some (some (.ref f21))) (l21 : K.lookup f21 = some ⟨oc21, od21, .func (PySem.W.fnOf "law" "law" (Zu W2) (Zn W2) (Ze W2) .none kV21 dc21 pm21 an21 cd21 ct21), sl21⟩) (c21 : PySem.W.codeIn K cd21 "law" = true) (k21 : PySem.W.keepIn K (.ref f21) = true)
  (z0 : PySem.W.nsIn K mainGlobals "abs" = some none)
  (z1 : PySem.W.nsIn K mainGlobals "all" = some none)
  (z2 : PySem.W.nsIn K mainGlobals "bool" = some none)
  (z3 : PySem.W.nsIn K mainGlobals "int" = some none)
  (z4 : PySem.W.nsIn K mainGlobals "isinstance" = some none)
  (z5 : PySem.W.nsIn K mainGlobals "len" = some none)
  (z6 : PySem.W.nsIn K mainGlobals "list" = some none)
  (z7 : PySem.W.nsIn K mainGlobals "max" = some none)
  (z8 : PySem.W.nsIn K mainGlobals "range" = some none)
  (z9 : PySem.W.nsIn K mainGlobals "repr" = some none)
  (z10 : PySem.W.nsIn K mainGlobals "str" = some none)
  (z11 : PySem.W.nsIn K mainGlobals "tuple" = some none)
  (u0 : PySem.W.nsIn K mainGlobals "MOST" = some (some (.int 999999999999 tk0)))
  (u1 : PySem.W.nsIn K mainGlobals "MOST_BOXES" = some (some (.int 6 tk1))) :
  ∃ fd : FuncData, (∀ (s : Shared) (v : Value), BindsTo s fd ⟨[v], []⟩ [("_law_script", v)]) ∧ ∀ base : Heap, K.In base → base.Ns mainGlobals mg → ZX l.prog w K mg base CX0 7 fa fd ["_law_script"] (lift K G9) := by
 have e := hfa.symm.trans (PySem.W.mg_of X G a21)
 cases e
 have F0 := ZW (st := Qk) l0 c0 k0
 have b0 := F0.binds (ps := ["thing"]) fun _ _ _ _ _ _ us hl => by obtain ⟨_, rfl⟩ := JI hl; rfl
 have F1 := ZW (st := Qm) l1 c1 k1
 have b1 := F1.binds (ps := ["thing"]) fun _ _ _ _ _ _ us hl => by obtain ⟨_, rfl⟩ := JI hl; rfl
 have F2 := ZW (st := ZT) l2 c2 k2
 have b2 := F2.binds (ps := ["thing"]) fun _ _ _ _ _ _ us hl => by obtain ⟨_, rfl⟩ := JI hl; rfl
 have F3 := ZW (st := QB) l3 c3 k3
 have b3 := F3.binds (ps := ["thing"]) fun _ _ _ _ _ _ us hl => by obtain ⟨_, rfl⟩ := JI hl; rfl
 have F4 := ZW (st := Jb) l4 c4 k4
 have b4 := F4.binds (ps := ["thing"]) fun _ _ _ _ _ _ us hl => by obtain ⟨_, rfl⟩ := JI hl; rfl
 have F5 := ZW (st := Qd) l5 c5 k5
 have b5 := F5.binds (ps := ["box"]) fun _ _ _ _ _ _ us hl => by obtain ⟨_, rfl⟩ := JI hl; rfl
 have F6 := ZW (st := ZI) l6 c6 k6
 have b6 := F6.binds (ps := ["one", "other"]) fun _ _ _ _ _ _ us hl => by obtain ⟨_, _, rfl⟩ := Uz hl; rfl
 have F7 := ZW (st := Um) l7 c7 k7
 have b7 := F7.binds (ps := ["one", "other", "way"]) fun _ _ _ _ _ _ us hl => by obtain ⟨_, _, _, rfl⟩ := ON hl; rfl
 have F8 := ZW (st := Qa) l8 c8 k8
 have b8 := F8.binds (ps := ["thing"]) fun _ _ _ _ _ _ us hl => by obtain ⟨_, rfl⟩ := JI hl; rfl
 have F9 := ZW (st := Qc) l9 c9 k9
 have b9 := F9.binds (ps := ["boxes"]) fun _ _ _ _ _ _ us hl => by obtain ⟨_, rfl⟩ := JI hl; rfl
 have F10 := ZW (st := Z8) l10 c10 k10
 have b10 := F10.binds (ps := ["things"]) fun _ _ _ _ _ _ us hl => by obtain ⟨_, rfl⟩ := JI hl; rfl
 have F11 := ZW (st := QI) l11 c11 k11
 have b11 := F11.binds (ps := ["thing"]) fun _ _ _ _ _ _ us hl => by obtain ⟨_, rfl⟩ := JI hl; rfl
 have F12 := ZW (st := Qn) l12 c12 k12
 have b12 := F12.binds (ps := ["thing"]) fun _ _ _ _ _ _ us hl => by obtain ⟨_, rfl⟩ := JI hl; rfl
 have F13 := ZW (st := V9) l13 c13 k13
 have b13 := F13.binds (ps := ["_law_pen", "_law_many"]) fun _ _ _ _ _ _ us hl => by obtain ⟨_, _, rfl⟩ := Uz hl; rfl
 have F14 := ZW (st := VX) l14 c14 k14
 have b14 := F14.binds (ps := ["_law_pen", "_law_many"]) fun _ _ _ _ _ _ us hl => by obtain ⟨_, _, rfl⟩ := Uz hl; rfl
 have F15 := ZW (st := s_same) l15 c15 k15
 have b15 := F15.binds (ps := ["_law_found", "_law_due"]) fun _ _ _ _ _ _ us hl => by obtain ⟨_, _, rfl⟩ := Uz hl; rfl
 have F16 := ZW (st := JA) l16 c16 k16
 have b16 := F16.binds (ps := ["_law_pen", "_law_most"]) fun _ _ _ _ _ _ us hl => by obtain ⟨_, _, rfl⟩ := Uz hl; rfl
 have F17 := ZW (st := Z6) l17 c17 k17
 have b17 := F17.binds (ps := ["_law_boxes_here", "_law_by", "_law_off"]) fun _ _ _ _ _ _ us hl => by obtain ⟨_, _, _, rfl⟩ := ON hl; rfl
 have F18 := ZW (st := QC) l18 c18 k18
 have b18 := F18.binds (ps := ["_law_pen"]) fun _ _ _ _ _ _ us hl => by obtain ⟨_, rfl⟩ := JI hl; rfl
 have F19 := ZW (st := Q9) l19 c19 k19
 have b19 := F19.binds (ps := ["_law_pen", "_law_boxes_here"]) fun _ _ _ _ _ _ us hl => by obtain ⟨_, _, rfl⟩ := Uz hl; rfl
 have F20 := ZW (st := JY) l20 c20 k20
 have b20 := F20.binds (ps := ["_law_thing"]) fun _ _ _ _ _ _ us hl => by obtain ⟨_, rfl⟩ := JI hl; rfl
 have F21 := ZW (st := W2) l21 c21 k21
 have b21 := F21.binds (ps := ["_law_script"]) fun _ _ _ _ _ _ us hl => by obtain ⟨_, rfl⟩ := JI hl; rfl
 let T : Tx K mg := ⟨_, _, ⟨F0, PySem.W.mg_of X G a0, b0⟩, _, _, ⟨F1, PySem.W.mg_of X G a1, b1⟩, _, _, ⟨F2, PySem.W.mg_of X G a2, b2⟩, _, _, ⟨F3, PySem.W.mg_of X G a3, b3⟩, _, _, ⟨F4, PySem.W.mg_of X G a4, b4⟩, _, _, ⟨F5, PySem.W.mg_of X G a5, b5⟩, _, _, ⟨F6, PySem.W.mg_of X G a6, b6⟩, _, _, ⟨F7, PySem.W.mg_of X G a7, b7⟩, _, _, ⟨F8, PySem.W.mg_of X G a8, b8⟩, _, _, ⟨F9, PySem.W.mg_of X G a9, b9⟩, _, _, ⟨F10, PySem.W.mg_of X G a10, b10⟩, _, _, ⟨F11, PySem.W.mg_of X G a11, b11⟩, _, _, ⟨F12, PySem.W.mg_of X G a12, b12⟩, _, _, ⟨F13, PySem.W.mg_of X G a13, b13⟩, _, _, ⟨F14, PySem.W.mg_of X G a14, b14⟩, _, _, ⟨F15, PySem.W.mg_of X G a15, b15⟩, _, _, ⟨F16, PySem.W.mg_of X G a16, b16⟩, _, _, ⟨F17, PySem.W.mg_of X G a17, b17⟩, _, _, ⟨F18, PySem.W.mg_of X G a18, b18⟩, _, _, ⟨F19, PySem.W.mg_of X G a19, b19⟩, _, _, ⟨F20, PySem.W.mg_of X G a20, b20⟩, _, _, ⟨F21, PySem.W.mg_of X G a21, b21⟩, PySem.W.mg_none_of X G z0, PySem.W.mg_none_of X G z1, PySem.W.mg_none_of X G z2, PySem.W.mg_none_of X G z3, PySem.W.mg_none_of X G z4, PySem.W.mg_none_of X G z5, PySem.W.mg_none_of X G z6, PySem.W.mg_none_of X G z7, PySem.W.mg_none_of X G z8, PySem.W.mg_none_of X G z9, PySem.W.mg_none_of X G z10, PySem.W.mg_none_of X G z11, _, PySem.W.mg_of X G u0, _, PySem.W.mg_of X G u1⟩
 exact ⟨_, fun s v => .of_eq rfl, fun base _ _ => Pe T⟩
theorem walk {l : PySem.W.OpenLaw} {q : Program} {loose : List Str} {XP : (Str → Option Value) → Heap → Prop} {YP : World → Heap → Prop} {d : DefRec} {K : Params → PySem.W.Frag} (hn : l.most = some 63) (hdf : d.params.defaults = [])
  (hY : ∀ (w : World) (h : Heap), YP w h → (K w.params).In h)
  (F : ∀ (w : World) (mg : Str → Option Value) (fa : Addr) (h : Heap), (K w.params).In h → h.Ns mainGlobals mg → mg d.name = some (.ref fa) →
   ∃ fd : FuncData, (∀ (s : Shared) (u : Value), BindsTo s fd ⟨[u], []⟩ [("_law_script", u)]) ∧ ∀ base : Heap, (K w.params).In base → base.Ns mainGlobals mg → ZX l.prog w (K w.params) mg base CX0 7 fa fd ["_law_script"] (lift (K w.params) G9)) :
  PySem.W.WalkO q loose XP YP l.row.toRowW d [] (fun f vs => PySem.call f vs) :=
 L2.LQ (n := 63) (k := 7) (x := "_law_script") (CX := fun _ => CX0) (sp := fun w => lift (K w.params) G9) hn (by decide) hdf ⟨rfl, by decide, by decide, rfl⟩ hY F
  (fun w H a ns hl hO hS => GL hl hO hS) fun _ _ _ _ _ z => z
end My
open PySem PySem.W PyProof.Rows
set_option maxRecDepth 100000 in
set_option maxHeartbeats 0 in
theorem PySem.Challenge.cw_landsentered_k03_shapes_made_holds : PySem.Challenge.rw_landsentered_k03_shapes_made.Holds := by
 w_on; o_law; k_head; (case hw => w_witness2)
 k_fill
 refine My.walk (l := PySem.Challenge.rw_landsentered_k03_shapes_made) rfl rfl (fun w h Y => PySem.W.kIn_of Y) ?F
 case F =>
  intro w mg fa h KX G hmg
  refine' My.all_mk KX G hmg ?a0 ?l0 ?c0 ?k0 ?a1 ?l1 ?c1 ?k1 ?a2 ?l2 ?c2 ?k2 ?a3 ?l3 ?c3 ?k3 ?a4 ?l4 ?c4 ?k4 ?a5 ?l5 ?c5 ?k5 ?a6 ?l6 ?c6 ?k6 ?a7 ?l7 ?c7 ?k7 ?a8 ?l8 ?c8 ?k8 ?a9 ?l9 ?c9 ?k9 ?a10 ?l10 ?c10 ?k10 ?a11 ?l11 ?c11 ?k11 ?a12 ?l12 ?c12 ?k12 ?a13 ?l13 ?c13 ?k13 ?a14 ?l14 ?c14 ?k14 ?a15 ?l15 ?c15 ?k15 ?a16 ?l16 ?c16 ?k16 ?a17 ?l17 ?c17 ?k17 ?a18 ?l18 ?c18 ?k18 ?a19 ?l19 ?c19 ?k19 ?a20 ?l20 ?c20 ?k20 ?a21 ?l21 ?c21 ?k21 ?z0 ?z1 ?z2 ?z3 ?z4 ?z5 ?z6 ?z7 ?z8 ?z9 ?z10 ?z11 ?u0 ?u1
  (case a0 => k_is)
  (case l0 => k_is)
  (case c0 => k_is)
  (case k0 => k_is)
  (case a1 => k_is)
  (case l1 => k_is)
  (case c1 => k_is)
  (case k1 => k_is)
  (case a2 => k_is)
  (case l2 => k_is)
  (case c2 => k_is)
  (case k2 => k_is)
  (case a3 => k_is)
  (case l3 => k_is)
  (case c3 => k_is)
  (case k3 => k_is)
  (case a4 => k_is)
  (case l4 => k_is)
  (case c4 => k_is)
  (case k4 => k_is)
  (case a5 => k_is)
  (case l5 => k_is)
  (case c5 => k_is)
  (case k5 => k_is)
  (case a6 => k_is)
  (case l6 => k_is)
  (case c6 => k_is)
  (case k6 => k_is)
  (case a7 => k_is)
  (case l7 => k_is)
  (case c7 => k_is)
  (case k7 => k_is)
  (case a8 => k_is)
  (case l8 => k_is)
  (case c8 => k_is)
  (case k8 => k_is)
  (case a9 => k_is)
  (case l9 => k_is)
  (case c9 => k_is)
  (case k9 => k_is)
  (case a10 => k_is)
  (case l10 => k_is)
  (case c10 => k_is)
  (case k10 => k_is)
  (case a11 => k_is)
  (case l11 => k_is)
  (case c11 => k_is)
  (case k11 => k_is)
  (case a12 => k_is)
  (case l12 => k_is)
  (case c12 => k_is)
  (case k12 => k_is)
  (case a13 => k_is)
  (case l13 => k_is)
  (case c13 => k_is)
  (case k13 => k_is)
  (case a14 => k_is)
  (case l14 => k_is)
  (case c14 => k_is)
  (case k14 => k_is)
  (case a15 => k_is)
  (case l15 => k_is)
  (case c15 => k_is)
  (case k15 => k_is)
  (case a16 => k_is)
  (case l16 => k_is)
  (case c16 => k_is)
  (case k16 => k_is)
  (case a17 => k_is)
  (case l17 => k_is)
  (case c17 => k_is)
  (case k17 => k_is)
  (case a18 => k_is)
  (case l18 => k_is)
  (case c18 => k_is)
  (case k18 => k_is)
  (case a19 => k_is)
  (case l19 => k_is)
  (case c19 => k_is)
  (case k19 => k_is)
  (case a20 => k_is)
  (case l20 => k_is)
  (case c20 => k_is)
  (case k20 => k_is)
  (case a21 => k_is)
  (case l21 => k_is)
  (case c21 => k_is)
  (case k21 => k_is)
  (case z0 => k_is)
  (case z1 => k_is)
  (case z2 => k_is)
  (case z3 => k_is)
  (case z4 => k_is)
  (case z5 => k_is)
  (case z6 => k_is)
  (case z7 => k_is)
  (case z8 => k_is)
  (case z9 => k_is)
  (case z10 => k_is)
  (case z11 => k_is)
  (case u0 => k_is)
  (case u1 => k_is)
