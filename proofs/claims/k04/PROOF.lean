import PyProof.Rows.All
import Wide.All
import OpenK.AllK
import Wide.FinOn
import Lean
import PyProof.EqAt
import PyProof.EqKinds
import PyProof.TupleCall
import PyProof.ReprRoads
import PyProof.EqLayable
import PyProof.NeData
import PyProof.Rows.TupDisplay
import PySem.Challenge.RW_landsentered_k04_no_shapes
set_option Elab.async false
set_option linter.all false
set_option maxRecDepth 100000
set_option compiler.extract_closed false
set_option bootstrap.genMatcherCode false
namespace L2
open PySem PySem.Spec PyProof.Rows
noncomputable abbrev Key := Sum Int Str
noncomputable def Bh : Key → Value → Bool
 | .inl k, v => Value.isInt k v
 | .inr x, v => Value.isStrOf x v
noncomputable def ZeW (w : World) : Key → Int
 | .inl k => hashInt k
 | .inr x => hashStr w x
theorem ZQ : ∀ {k : Key} {v : Value}, Bh k v = true → (∃ i t, k = Sum.inl i ∧ v = Value.int i t) ∨ (∃ x t, k = Sum.inr x ∧ v = Value.str x t)
 | .inl i, v, h => by
  obtain ⟨t, e⟩ := Value.isInt_shape (k := i) (v := v) h
  exact .inl ⟨i, t, rfl, e⟩
 | .inr x, v, h => by
  obtain ⟨t, e⟩ := Value.isStrOf_shape (x := x) (v := v) h
  exact .inr ⟨x, t, rfl, e⟩
theorem Ds (i : Int) (t : Tok) : Bh (.inl i) (.int i t) = true := by simp [Bh, Value.isInt]
theorem Dr (x : Str) (t : Tok) : Bh (.inr x) (.str x t) = true := by simp [Bh, Value.isStrOf]
theorem R3 (a b : Int) : decide ((Sum.inl a : Key) = Sum.inl b) = (a == b) := by
 by_cases e : a = b
 ·subst e; simp
 ·have h : ¬ (Sum.inl a : Key) = Sum.inl b := fun q => e (Sum.inl.inj q)
  rw [decide_eq_false h]
  exact (beq_eq_false_iff_ne.mpr e).symm
theorem TL (a b : Str) : decide ((Sum.inr a : Key) = Sum.inr b) = decide (a = b) := by
 by_cases e : a = b
 ·subst e; simp
 ·have h : ¬ (Sum.inr a : Key) = Sum.inr b := fun q => e (Sum.inr.inj q)
  rw [decide_eq_false h, decide_eq_false e]
theorem Tt (a : Int) (b : Str) : decide ((Sum.inl a : Key) = Sum.inr b) = false := decide_eq_false (fun q => nomatch q)
theorem RF (a : Str) (b : Int) : decide ((Sum.inr a : Key) = Sum.inl b) = false := decide_eq_false (fun q => nomatch q)
noncomputable def Z3 (prog : Program) (w : World) : PySem.KeyKind prog w Key where
 is := Bh
 hash := ZeW w
 inj := fun v a b ha hb => by
  rcases ZQ ha with ⟨i, t, rfl, rfl⟩ | ⟨x, t, rfl, rfl⟩
  ·rcases ZQ hb with ⟨j, u, rfl, e⟩ | ⟨y, u, rfl, e⟩
   ·injection e with e1 _; rw [e1]
   ·exact nomatch e
  ·rcases ZQ hb with ⟨j, u, rfl, e⟩ | ⟨y, u, rfl, e⟩
   ·exact nomatch e
   ·injection e with e1 _; rw [e1]
 byValue := fun k v h => by
  rcases ZQ h with ⟨i, t, rfl, rfl⟩ | ⟨x, t, rfl, rfl⟩ <;> rfl
 pyHash := fun hv h => by
  rcases ZQ hv with ⟨i, t, rfl, rfl⟩ | ⟨x, t, rfl, rfl⟩
  ·exact wpAny_pyHash_int h
  ·exact wpAny_pyHash_str h
 eqBool := fun hu hv h => by
  rcases ZQ hu with ⟨i, t, rfl, rfl⟩ | ⟨x, t, rfl, rfl⟩
  ·rcases ZQ hv with ⟨j, u, rfl, rfl⟩ | ⟨y, u, rfl, rfl⟩
   ·rw [R3] at h; exact wpAny_eqBool_int h
   ·rw [Tt] at h; exact SeqAt.EqAt.int_str i t y u _ _ _ _ h
  ·rcases ZQ hv with ⟨j, u, rfl, rfl⟩ | ⟨y, u, rfl, rfl⟩
   ·rw [RF] at h; exact SeqAt.EqAt.str_int x t j u _ _ _ _ h
   ·rw [TL] at h; exact wpAny_eqBool_str h
 «strs» := fun k x t v h => by
  rcases ZQ h with ⟨i, u, rfl, e⟩ | ⟨y, u, rfl, e⟩
  ·exact nomatch e
  ·injection e with e1 _
   subst e1
   cases v <;> rfl
theorem US (prog : Program) (w : World) (i : Int) (t : Tok) : (Z3 prog w).is (.inl i) (.int i t) = true := Ds i t
theorem W8 (prog : Program) (w : World) (x : Str) (t : Tok) : (Z3 prog w).is (.inr x) (.str x t) = true := Dr x t
end L2
namespace L2
open PySem PySem.Spec PyProof.Rows
inductive V where
 | non | bl (b : Bool) | int (i : Int) | str (x : Str) | byt (b : Array UInt8) | flt (b : UInt64) | ref (a : Addr) | ty (n : String)
 deriving DecidableEq
noncomputable def RelV : V → Value → Prop
 | .non, u => u = Value.none
 | .bl b, u => u = Value.bool b
 | .int i, u => ∃ t, u = Value.int i t
 | .str x, u => ∃ t, u = Value.str x t
 | .byt b, u => ∃ t, u = Value.bytes b t
 | .flt b, u => ∃ t, u = Value.float b t
 | .ref a, u => u = Value.ref a
 | .ty n, u => u = Value.type n
noncomputable abbrev Vals : List V → List Value → Prop := Paired RelV
theorem Vals.length {xs : List V} {us : List Value} (r : Vals xs us) : xs.length = us.length := Paired.length r
theorem Vals.get : ∀ {xs : List V} {us : List Value} {i : Nat} {x : V}, Vals xs us → xs[i]? = some x → ∃ u, us[i]? = some u ∧ RelV x u
 | _, _, _, _, .nil, e => by simp at e
 | _, _, 0, _, .cons r _, e => by simp at e; subst e; exact ⟨_, rfl, r⟩
 | _, _, i + 1, x, .cons _ t, e => by
  obtain ⟨u, h1, h2⟩ := Vals.get (i := i) (x := x) t (by simpa using e)
  exact ⟨u, by simpa using h1, h2⟩
theorem Vals.set {x : V} {u : Value} (r : RelV x u) : ∀ {xs : List V} {us : List Value} (i : Nat), Vals xs us → Vals (xs.set i x) (us.set i u)
 | _, _, _, .nil => .nil
 | _, _, 0, .cons _ t => .cons r t
 | _, _, i + 1, .cons q t => .cons q (Vals.set r i t)
theorem Vals.append : ∀ {xs ys : List V} {us ws : List Value}, Vals xs us → Vals ys ws → Vals (xs ++ ys) (us ++ ws)
 | _, _, _, _, .nil, s => s
 | _, _, _, _, .cons r t, s => .cons r (Vals.append t s)
theorem Vals.take : ∀ {xs : List V} {us : List Value} (n : Nat), Vals xs us → Vals (xs.take n) (us.take n)
 | _, _, 0, _ => .nil
 | _, _, _ + 1, .nil => .nil
 | _, _, n + 1, .cons r t => .cons r (Vals.take n t)
theorem Vals.drop : ∀ {xs : List V} {us : List Value} (n : Nat), Vals xs us → Vals (xs.drop n) (us.drop n)
 | _, _, 0, r => r
 | _, _, _ + 1, .nil => .nil
 | _, _, n + 1, .cons _ t => Vals.drop n t
noncomputable def Pu : Option V → Option Value → Prop
 | some v, some u => RelV v u
 | none, none => True
 | _, _ => False
noncomputable def KV {κ : Type} : List (κ × V) → List (κ × Value) → Prop := Paired fun (p : κ × V) (q : κ × Value) => p.1 = q.1 ∧ RelV p.2 q.2
noncomputable def kV : Key → V
 | .inl i => .int i
 | .inr x => .str x
inductive HO where
  | lst (xs : List V)
  | tup (xs : List V)
  | dK (kvs : List (Key × V)) | dT (kvs : List (List Key × V))
  | set (S : Int → Bool) (n : Nat)
  | ins (C dx : Addr) (fs : List (Str × V))
  | own (x : Addr)
  | xd (fs : List (Str × V))
  | met (f x : Addr)
  | rng (lo hi : Int)
  | frz (o : Obj) (u : HO)
  | tbl (ps : Array Value)
  | ext (φ : Heap → Prop)
noncomputable abbrev Hp := Addr → Option HO
noncomputable def upd (H : Hp) (a : Addr) (o : HO) : Hp := fun b => if b = a then some o else H b
theorem ZT {H : Hp} {a : Addr} {o : HO} : upd H a o a = some o := by unfold upd; rw [if_pos rfl]
theorem Zq {H : Hp} {a b : Addr} {o : HO} (h : b ≠ a) : upd H a o b = H b := by unfold upd; rw [if_neg h]
theorem DC {H : Hp} {a : Addr} {o u : HO} : upd (upd H a o) a u = upd H a u := by
 funext b; unfold upd; split <;> rfl
theorem Zl {H : Hp} {a b : Addr} {o : HO} (h : H a = some o) (h' : H b = none) : a ≠ b := by
 intro e; subst e; rw [h] at h'; cases h'
section
variable (P : Program) (w : World)
noncomputable def Qb (H : Hp) (h : Heap) (a : Addr) : HO → Prop
 | .lst xs => xs.length ≤ sizeLine ∧ ∃ (its : List Value) (n : Nat), Vals xs its ∧ h.get? a = some { cls := .type "list", data := .seq its.toArray n }
 | .tup xs => xs.length ≤ sizeLine ∧ ∃ its : List Value, Vals xs its ∧ IsTup h a its.toArray
 | .dK kvs => kvs.length ≤ sizeLine ∧ (a == sysModules) = false ∧ ∃ vs, KV kvs vs ∧ h.DictOf (Z3 P w) a vs
 | .dT kvs => kvs.length ≤ sizeLine ∧ (a == sysModules) = false ∧ ∃ xs : List (List Key × Addr × Value),
   Paired (fun (p : List Key × V) (q : List Key × Addr × Value) => p.1 = q.1 ∧ H q.2.1 = some (.tup (p.1.map kV)) ∧ RelV p.2 q.2.2) kvs xs ∧
   ∃ o es ep, h.get? a = some o ∧ o.ExactDict ∧ o.data = .dict es ep ∧ es.toList = xs.map (entryOfKey (tupleKind (Z3 P w))) ∧ (xs.map (·.1)).Nodup
 | .set S n => h.SetOf (intKind P w) a S n
 | .ins C dx fs => H dx = some (.own a) ∧ fs.length ≤ 1000 ∧ dx ≠ a ∧ h.get? a = some (PySem.W.instObj C dx) ∧
   ∃ mA, h.Ns1 dx mA ∧ (∀ f, Pu (fs.lookup f) (mA f)) ∧ PySem.Within mA (fs.map (·.1))
 | .own _ => ∃ o, h.get? a = some o
 | .xd fs => ∃ mA, h.Ns1 a mA ∧ ∀ f, Pu (fs.lookup f) (mA f)
 | .rng lo hi => ∃ t u v, h.get? a = some { cls := .type "range", data := .fields #[.int lo t, .int hi u, .int 1 v] }
 | .frz o u => h.get? a = some o ∧ Qb H h a u
 | .tbl ps => h.get? a = some { cls := .none, data := .fields ps }
 | .met f x => h.get? a = some (PySem.W.methodObj (.ref f) (.ref x))
 | .ext φ => φ h ∧ (∃ o, h.get? a = some o) ∧ ∀ h1 h2 : Heap, φ h1 → (∀ o, h1.get? a = some o → h2.get? a = some o) → φ h2
noncomputable def HOk (H : Hp) (h : Heap) : Prop := ∀ a o, H a = some o → Qb P w H h a o
end
section
variable {P : Program} {w : World} {H H' : Hp} {h h' : Heap} {a : Addr} {o : HO}
theorem Qb.lt (x : Qb P w H h a o) : a < h.objs.size := by
 cases o with
 | lst xs => obtain ⟨_, _, _, _, e⟩ := x; exact Heap.lt_size e
 | tup xs => obtain ⟨_, _, _, p⟩ := x; exact p.lt
 | dK kvs => obtain ⟨_, _, _, _, o, _, _, e, _⟩ := x; exact Heap.lt_size e
 | dT kvs => obtain ⟨_, _, _, _, o, _, _, e, _⟩ := x; exact Heap.lt_size e
 | set S n => obtain ⟨o, _, _, _, e, _⟩ := x; exact Heap.lt_size e
 | ins C dx fs => obtain ⟨_, _, _, e, _⟩ := x; exact Heap.lt_size e
 | own y => obtain ⟨_, e⟩ := x; exact Heap.lt_size e
 | xd fs => obtain ⟨_, ⟨_, _, _, e, _⟩, _⟩ := x; exact Heap.lt_size e
 | rng lo hi => obtain ⟨_, _, _, e⟩ := x; exact Heap.lt_size e
 | frz ob u => obtain ⟨e, _⟩ := x; exact Heap.lt_size e
 | tbl ps => exact Heap.lt_size (show h.get? a = some _ from x)
 | met f y => exact Heap.lt_size (show h.get? a = some _ from x)
 | ext φ => obtain ⟨_, ⟨_, e⟩, _⟩ := x; exact Heap.lt_size e
theorem Paired.RU {α β : Type} {F G : α → β → Prop} : ∀ {l₁ : List α} {l₂ : List β}, Paired F l₁ l₂ → (∀ a b, F a b → G a b) → Paired G l₁ l₂
 | _, _, .nil, _ => .nil
 | _, _, .cons r t, f => .cons (f _ _ r) (Paired.RU t f)
theorem Qb.Eu (x : Qb P w H h a o) (k : ∀ b u, (b = a ∨ H b = some (.own a)) → h.get? b = some u → h'.get? b = some u)
  (ho : ∀ b, H b = some (.own a) → H' b = some (.own a)) (ht : ∀ b xs, H b = some (.tup xs) → H' b = some (.tup xs)) : Qb P w H' h' a o := by
 induction o with
 | lst xs => obtain ⟨z, its, n, r, e⟩ := x; exact ⟨z, its, n, r, k _ _ (.inl rfl) e⟩
 | tup xs => obtain ⟨z, its, r, ob, e, c⟩ := x; exact ⟨z, its, r, ob, k _ _ (.inl rfl) e, c⟩
 | dK kvs => obtain ⟨z, y, vs, r, ob, es, ep, e, c⟩ := x; exact ⟨z, y, vs, r, ob, es, ep, k _ _ (.inl rfl) e, c⟩
 | dT kvs =>
  obtain ⟨z, y, xs, r, ob, es, ep, e, c⟩ := x
  exact ⟨z, y, xs, Paired.RU r fun p q z => ⟨z.1, ht _ _ z.2.1, z.2.2⟩, ob, es, ep, k _ _ (.inl rfl) e, c⟩
 | set S n => obtain ⟨ob, es, ep, t, e, c⟩ := x; exact ⟨ob, es, ep, t, k _ _ (.inl rfl) e, c⟩
 | ins C dx fs =>
  obtain ⟨d, z, ne, e, mA, ⟨od, es, ep, e2, c⟩, r⟩ := x
  exact ⟨ho _ d, z, ne, k _ _ (.inl rfl) e, mA, ⟨od, es, ep, k _ _ (.inr d) e2, c⟩, r⟩
 | own y => obtain ⟨ob, e⟩ := x; exact ⟨ob, k _ _ (.inl rfl) e⟩
 | xd fs => obtain ⟨mA, ⟨od, es, ep, e, c⟩, r⟩ := x; exact ⟨mA, ⟨od, es, ep, k _ _ (.inl rfl) e, c⟩, r⟩
 | rng lo hi => obtain ⟨t, u, v, e⟩ := x; exact ⟨t, u, v, k _ _ (.inl rfl) e⟩
 | frz ob u ih => obtain ⟨e, q⟩ := x; exact ⟨k _ _ (.inl rfl) e, ih q⟩
 | tbl ps =>
  have e : h.get? a = some { cls := .none, data := .fields ps } := x
  show h'.get? a = some { cls := .none, data := .fields ps }
  exact k a _ (.inl rfl) e
 | met f y =>
  have e : h.get? a = some (PySem.W.methodObj (.ref f) (.ref y)) := x
  show h'.get? a = some (PySem.W.methodObj (.ref f) (.ref y))
  exact k a _ (.inl rfl) e
 | ext φ => obtain ⟨p, ⟨o, e⟩, st⟩ := x; exact ⟨st _ _ p fun o q => k _ _ (.inl rfl) q, ⟨o, k _ _ (.inl rfl) e⟩, st⟩
theorem HOk.lt (x : HOk P w H h) (e : H a = some o) : a < h.objs.size := (x a o e).lt
theorem HOk.fresh (x : HOk P w H h) (e : h.objs.size ≤ a) : H a = none := by
 cases q : H a with
 | none => rfl
 | some u => exact absurd (Nat.lt_of_lt_of_le (x.lt q) e) (Nat.lt_irrefl _)
theorem HOk.kept (x : HOk P w H h) (k : ∀ b u, h.get? b = some u → h'.get? b = some u) : HOk P w H h' := fun a o e =>
 (x a o e).Eu (fun b u _ q => k b u q) (fun _ q => q) fun _ _ q => q
theorem HOk.laid (x : HOk P w H h) (k : ∀ b u, h.get? b = some u → h'.get? b = some u) (hp : h.objs.size ≤ a) (new : Qb P w (upd H a o) h' a o) : HOk P w (upd H a o) h' := fun b u e => by
 have hn := x.fresh hp
 by_cases hb : b = a
 ·subst hb; rw [ZT] at e; cases e; exact new
 ·rw [Zq hb] at e
  exact (x b u e).Eu (fun c v _ q => k c v q) (fun c q => by rw [Zq (Zl q hn)]; exact q) fun c xs q => by rw [Zq (Zl q hn)]; exact q
end
noncomputable def Rd (H : Hp) (a : Addr) (u : HO) : Prop := H a = some u ∨ ∃ o, H a = some (.frz o u)
theorem Rd.of {H : Hp} {a : Addr} {u : HO} (h : H a = some u) : Rd H a u := .inl h
theorem Rd.ok {P : Program} {w : World} {H : Hp} {h : Heap} {a : Addr} {u : HO} (r : Rd H a u) (x : HOk P w H h) : Qb P w H h a u := by
 rcases r with r | ⟨o, r⟩
 ·exact x a u r
 ·obtain ⟨_, q⟩ := x a _ r
  exact q
noncomputable def Mut : Option HO → Prop
 | some (.lst _) => True
 | some (.dK _) => True
 | some (.dT _) => True
 | some (.set _ _) => True
 | some (.ins _ _ _) => True
 | some (.ext _) => True
 | _ => False
section
variable {P : Program} {w : World} {H : Hp} {h h' : Heap} {x e : Addr} {o' : HO}
theorem HOk.write (ok : HOk P w H h) (mu : Mut (H x)) (he : e = x ∨ H e = some (.own x)) (k : ∀ b u, b ≠ e → h.get? b = some u → h'.get? b = some u) (heo : ∃ u, h'.get? e = some u)
  (new : Qb P w (upd H x o') h' x o') : HOk P w (upd H x o') h' := fun b u q => by
 have nown : ∀ c y, H c = some (.own y) → c ≠ x := fun c y r z => by subst z; rw [r] at mu; exact mu
 have ntup : ∀ c xs, H c = some (.tup xs) → c ≠ x := fun c xs r z => by subst z; rw [r] at mu; exact mu
 by_cases hb : b = x
 ·subst hb; rw [ZT] at q; cases q; exact new
 ·rw [Zq hb] at q
  by_cases hbe : b = e
  ·have q' : H b = some (.own x) := by
    rcases he with z | z
    ·exact absurd (hbe.trans z) hb
    ·rw [hbe]; exact z
   rw [q] at q'; cases q'
   obtain ⟨v, hv⟩ := heo
   exact ⟨v, by rw [hbe]; exact hv⟩
  ·refine (ok b u q).Eu (fun c v hc r => k c v ?_ r) (fun c r => by rw [Zq (nown c b r)]; exact r) fun c xs r => by rw [Zq (ntup c xs r)]; exact r
   rcases hc with rfl | hc
   ·exact hbe
   ·rintro rfl
    rcases he with z | z
    ·exact nown c b hc z
    ·rw [hc] at z; cases z; exact hb rfl
end
structure Un (fs ex : List Addr) (H H' : Hp) (h h' : Heap) : Prop where
 keep : ∀ b o, h.get? b = some o → H b = none → b ∉ fs → b ∉ ex → h'.get? b = some o
 slot : ∀ b o, h.get? b = some o → H b = none → b ∈ fs → b ∉ ex → ∃ sl, h'.get? b = some { o with slots := sl }
 free : ∀ b o, h.get? b = some o → H b = none → b ∉ ex → H' b = none
 there : ∀ b o, h.get? b = some o → b ∉ ex → ∃ o', h'.get? b = some o'
 tups : ∀ b xs, H b = some (.tup xs) → H' b = some (.tup xs)
 frzs : ∀ b o u, H b = some (.frz o u) → H' b = some (.frz o u)
 tbls : ∀ b ps, H b = some (.tbl ps) → ∃ more, H' b = some (.tbl (ps ++ more))
section
variable {fs fs' ex ex' : List Addr} {H H1 H2 : Hp} {h h1 h2 h' : Heap} {a x e : Addr} {o : HO}
theorem Un.any (u : Un fs ex H H1 h h1) {b : Addr} {ob : Obj} (q : h.get? b = some ob) (n : H b = none) (hx : b ∉ ex) : ∃ sl, h1.get? b = some { ob with slots := sl } := by
 by_cases hb : b ∈ fs
 ·exact u.slot b ob q n hb hx
 ·exact ⟨ob.slots, u.keep b ob q n hb hx⟩
theorem Un.trans (a : Un fs ex H H1 h h1) (b : Un fs ex H1 H2 h1 h2) : Un fs ex H H2 h h2 where
 keep := fun c ob q n hc hx => b.keep c ob (a.keep c ob q n hc hx) (a.free c ob q n hx) hc hx
 slot := fun c ob q n hc hx => by
  obtain ⟨sl, e1⟩ := a.slot c ob q n hc hx
  obtain ⟨sl', e2⟩ := b.slot c _ e1 (a.free c ob q n hx) hc hx
  exact ⟨sl', e2⟩
 free := fun c ob q n hx => by
  obtain ⟨o', e1⟩ := a.there c ob q hx
  exact b.free c o' e1 (a.free c ob q n hx) hx
 there := fun c ob q hx => by
  obtain ⟨o', e1⟩ := a.there c ob q hx
  exact b.there c o' e1 hx
 tups := fun c xs q => b.tups c xs (a.tups c xs q)
 frzs := fun c ob xs q => b.frzs c ob xs (a.frzs c ob xs q)
 tbls := fun c ps q => by
  obtain ⟨m1, e1⟩ := a.tbls c ps q
  obtain ⟨m2, e2⟩ := b.tbls c _ e1
  exact ⟨m1 ++ m2, by rw [e2, Array.append_assoc]⟩
theorem Un.kept (k : ∀ b u, h.get? b = some u → h'.get? b = some u) : Un fs ex H H h h' :=
 ⟨fun b ob q _ _ _ => k b ob q, fun b ob q _ _ _ => ⟨ob.slots, k b ob q⟩, fun _ _ _ n _ => n, fun b ob q _ => ⟨ob, k b ob q⟩, fun _ _ q => q, fun _ _ _ q => q, fun _ ps q => ⟨#[], by rw [q]; simp⟩⟩
theorem Un.refl : Un fs ex H H h h := Un.kept fun _ _ q => q
theorem Un.laid (k : ∀ b u, h.get? b = some u → h'.get? b = some u) (hp : h.objs.size ≤ a) (hn : H a = none) : Un fs ex H (upd H a o) h h' where
 keep := fun b u q _ _ _ => k b u q
 slot := fun b u q _ _ _ => ⟨u.slots, k b u q⟩
 free := fun b u q n _ => by rw [Zq (Nat.ne_of_lt (Nat.lt_of_lt_of_le (Heap.lt_size q) hp))]; exact n
 there := fun b u q _ => ⟨u, k b u q⟩
 tups := fun b xs q => by rw [Zq (Zl q hn)]; exact q
 frzs := fun b u xs q => by rw [Zq (Zl q hn)]; exact q
 tbls := fun b ps q => ⟨#[], by rw [Zq (Zl q hn), q]; simp⟩
theorem Un.write (mu : Mut (H x)) (he : e = x ∨ H e = some (.own x)) (k : ∀ b u, b ≠ e → h.get? b = some u → h'.get? b = some u) (heo : ∃ u, h'.get? e = some u) : Un fs ex H (upd H x o) h h' := by
 have hx : ∀ b, H b = none → b ≠ x := fun b n z => by subst z; rw [n] at mu; exact mu
 have hb : ∀ b, H b = none → b ≠ e := fun b n z => by
  subst z
  rcases he with r | r
  ·exact hx b n r
  ·rw [n] at r; cases r
 have hm : ∀ b u, H b = some u → ¬ Mut (some u) → b ≠ x := fun b u q nm z => by subst z; rw [q] at mu; exact nm mu
 refine ⟨fun b u q n _ _ => k b u (hb b n) q, fun b u q n _ _ => ⟨u.slots, k b u (hb b n) q⟩, fun b u q n _ => by rw [Zq (hx b n)]; exact n, fun b u q _ => ?_,
  fun b xs q => by rw [Zq (hm b _ q fun z => z)]; exact q, fun b u xs q => by rw [Zq (hm b _ q fun z => z)]; exact q, fun b ps q => ⟨#[], by rw [Zq (hm b _ q fun z => z), q]; simp⟩⟩
 by_cases hbe : b = e
 ·subst hbe; exact heo
 ·exact ⟨u, k b u hbe q⟩
end
noncomputable def trk (h : Heap) (H : Hp) : List Addr := (List.range h.objs.size).filter fun a => (H a).isSome
noncomputable def Lq (h : Heap) (H : Hp) : Heap := PySem.W.hideAll h (trk h H)
theorem Dc (h : Heap) (H : Hp) : (Lq h H).objs.size = h.objs.size := PySem.W.hideAll_size _ _
theorem Hg {h : Heap} {H : Hp} {b : Addr} {o : Obj} (e : h.get? b = some o) (n : H b = none) : (Lq h H).get? b = some o :=
 PySem.W.hideAll_get _ e fun hm => by
  have q : (H b).isSome = true := (List.mem_filter.mp hm).2
  rw [n] at q; simp at q
theorem O3 {h : Heap} {H : Hp} {b : Addr} {o : Obj} (e : (Lq h H).get? b = some o) : h.get? b = some o ∧ H b = none := by
 have e' : h.get? b = some o := PySem.W.of_hideAll (trk h H) e
 refine ⟨e', ?_⟩
 cases q : H b with
 | none => rfl
 | some x =>
  have hm : b ∈ trk h H := List.mem_filter.mpr ⟨List.mem_range.mpr (Heap.lt_size e'), by simp [q]⟩
  have z : (Lq h H).get? b = none := PySem.W.hideAll_none (trk h H) hm
  rw [z] at e; cases e
noncomputable def Oi (g h : Heap) (L : Addr) : List (Addr × Obj) := (List.range h.objs.size).filterMap fun a => if a = L ∨ (g.get? a).isSome = true then none else (h.get? a).map fun o => (a, o)
noncomputable def rest (g h : Heap) (L d : Addr) : List (Addr × Obj) := (Oi g h L).filter fun p => decide (p.1 ≠ d)
end L2
namespace L2
open PySem PySem.Spec PyProof.Rows
structure Mod (K : PySem.W.Frag) (mg : Str → Option Value) (base : Heap) : Prop where
 kin : K.In base
 glob : base.Ns mainGlobals mg
 blt : ∃ mb, base.Ns builtinsNs mb ∧ ∀ x : Str, x ≠ "__name__" → mb x = bootBuiltins x
 nolimit : base.NoLimit
structure Cx where
 prog : Program
 w : World
 K : PySem.W.Frag
 mg : Str → Option Value
 base : Heap
 A : Around
 N : List Str
 s₀ : Shared
 H₀ : Hp
 env : Env
 outer : List Env
 stack : List Env
 ex : List Addr
 fn : Str → Bool
 calm : Bool
 pn : List (Addr × Obj)
 xe : Value → Shared → Prop
noncomputable def frs (l : List Env) : List Addr := l.filterMap (·.frame)
noncomputable abbrev Cx.fs (X : Cx) : List Addr := frs X.outer
noncomputable def Vis (sc : Scope) (x : Str) : Prop := sc.names.lookup x = some .local ∨ sc.names.lookup x = some .cell ∨ sc.names.lookup x = some .free
noncomputable def Loc (sc : Scope) (x : Str) : Prop := sc.names.lookup x = some .local ∨ sc.names.lookup x = some .cell
noncomputable def Look (env : Env) (h : Heap) (m : Str → Option Value) (x : Str) (u : Value) : Prop :=
 (env.kindOf x = some .local ∧ m x = some u) ∨ ((env.kindOf x = some .cell ∨ env.kindOf x = some .free) ∧ ∃ c, env.cells.lookup x = some c ∧ h.IsCell c (some u))
structure Cx.Ok (X : Cx) : Prop where
 mod : Mod X.K X.mg X.base
 kind : X.env.scope.kind = .function
 glob : X.env.globals = mainGlobals
 blt : X.env.builtins = builtinsNs
 above : X.s₀.heap.objs.size ≤ X.env.locals
 inj : ∀ x y c, X.env.cells.lookup x = some c → X.env.cells.lookup y = some c → x = y
 has : ∀ x, (X.env.kindOf x = some .cell ∨ X.env.kindOf x = some .free) → ∃ c, X.env.cells.lookup x = some c
 cab : ∀ x c, X.fn x = true → X.env.cells.lookup x = some c → X.s₀.heap.objs.size ≤ c
 hd : X.calm = true → X.A.handled = none
 frames : X.A.frames = some X.stack
 stk : X.stack = X.outer ∨ (X.stack = X.env :: X.outer ∧ X.env.frame = some X.env.locals)
 exf : ∀ b ∈ X.ex, b ≠ X.env.locals ∧ ∀ x c, X.env.cells.lookup x = some c → c ≠ b
 bs : ∀ b o, X.base.get? b = some o → X.s₀.heap.get? b = some o ∧ X.H₀ b = none
 bsz : X.base.objs.size ≤ X.s₀.heap.objs.size
 noex : ∀ b o, X.base.get? b = some o → b ∉ X.ex
 exfs : ∀ b ∈ X.ex, b ∉ X.fs
 Be : X.s₀.heap.FunFrames X.base X.outer
 frf : ∀ b ∈ X.fs, X.H₀ b = none
structure Inv (X : Cx) (pins : List (Addr × Obj)) (σ : List (Option V)) (H : Hp) (s : Shared) : Prop where
 ok : X.Ok
 os : s.os = X.s₀.os
 bare : AllBare s.gens
 base : Un X.fs X.ex X.H₀ H X.s₀.heap s.heap
 loc : ∃ m, s.heap.Ns X.env.locals m ∧ ∀ (i : Nat) (x : Str) (v : V), X.N[i]? = some x → σ[i]? = some (some v) → Vis X.env.scope x → ∃ u, RelV v u ∧ Look X.env s.heap m x u
 cell : ∀ x c, X.env.cells.lookup x = some c → ∃ v, s.heap.IsCell c v
 free : H X.env.locals = none
 freeC : ∀ x c, X.env.cells.lookup x = some c → H c = none
 pin : ∀ p ∈ X.pn ++ pins, s.heap.get? p.1 = some p.2 ∧ H p.1 = none ∧ p.1 ≠ X.env.locals ∧ p.1 ∉ X.fs ∧ ∀ v, p.2.data ≠ .cell v
 hok : HOk X.prog X.w H s.heap
 len : σ.length = X.N.length
section
variable {X : Cx} {pins : List (Addr × Obj)} {σ : List (Option V)} {H H' : Hp} {s : Shared} {h' : Heap}
theorem Cx.Ok.ZfA (ok : X.Ok) {b : Addr} {o : Obj} (e : X.base.get? b = some o) : b ∉ X.fs := fun hb => by
 have := (ok.Be.mem hb).1
 rw [e] at this; cases this
theorem Inv.bs (I : Inv X pins σ H s) : ∀ b o, X.base.get? b = some o → s.heap.get? b = some o ∧ H b = none := fun b o e =>
 ⟨I.base.keep b o (I.ok.bs b o e).1 (I.ok.bs b o e).2 (I.ok.ZfA e) (I.ok.noex b o e), I.base.free b o (I.ok.bs b o e).1 (I.ok.bs b o e).2 (I.ok.noex b o e)⟩
theorem Inv.bk (I : Inv X pins σ H s) : ∀ b o, X.base.get? b = some o → s.heap.get? b = some o := fun b o e => (I.bs b o e).1
theorem Inv.mod (I : Inv X pins σ H s) : Mod X.K X.mg X.base := I.ok.mod
theorem Inv.kIn (I : Inv X pins σ H s) : X.K.In s.heap := I.ok.mod.kin.keeps I.bk
theorem Inv.fr (I : Inv X pins σ H s) : ∃ m, Fr X.base X.env.locals s.heap m :=
 let ⟨m, hn, _⟩ := I.loc
 ⟨m, hn, I.bk, Nat.le_trans I.ok.bsz I.ok.above⟩
theorem Inv.lt (I : Inv X pins σ H s) : X.env.locals < s.heap.objs.size := let ⟨_, hn, _⟩ := I.loc; hn.lt
theorem Inv.sz (I : Inv X pins σ H s) : X.s₀.heap.objs.size ≤ s.heap.objs.size := Nat.le_trans I.ok.above (Nat.le_of_lt I.lt)
theorem Inv.ZeN (I : Inv X pins σ H s) {a : Addr} (h : s.heap.objs.size ≤ a) : a ∉ X.fs := fun hb => by
 obtain ⟨_, o, ho, _⟩ := I.ok.Be.mem hb
 exact absurd (Nat.lt_of_lt_of_le (Heap.lt_size ho) (Nat.le_trans I.sz h)) (Nat.lt_irrefl _)
theorem Inv.cne (I : Inv X pins σ H s) : ∀ x c, X.env.cells.lookup x = some c → c ≠ X.env.locals := fun x c e z => by
 obtain ⟨v, o, ho, hd⟩ := I.cell x c e
 obtain ⟨m, ⟨o', es, ep, ho', hd', _⟩, _⟩ := I.loc
 rw [z, ho'] at ho; cases ho; rw [hd'] at hd; cases hd
theorem Inv.Be (I : Inv X pins σ H s) : s.heap.FunFrames X.base X.outer := by
 have all : ∀ (l : List Env), (∀ b ∈ frs l, b ∈ X.fs) → X.s₀.heap.FunFrames X.base l → s.heap.FunFrames X.base l := by
  intro l
  induction l with
  | nil => intro _ _; trivial
  | cons env r ih =>
   intro hs hl
   obtain ⟨hk, ⟨L, o, hf, hn, ho, hd⟩, hr⟩ := hl
   have hL : L ∈ X.fs := hs L (by unfold frs; rw [List.filterMap_cons, hf]; exact List.mem_cons_self)
   obtain ⟨sl, e⟩ := I.base.slot L o ho (I.ok.frf L hL) hL fun z => I.ok.exfs L z hL
   exact ⟨hk, ⟨L, _, hf, hn, e, hd⟩, ih (fun b hb => hs b (by unfold frs; rw [List.filterMap_cons, hf]; exact List.mem_cons_of_mem _ hb)) hr⟩
 exact all X.outer (fun _ hb => hb) I.ok.Be
theorem Inv.stack (I : Inv X pins σ H s) : s.heap.FunFrames X.base X.stack := by
 rcases I.ok.stk with e | ⟨e, hf⟩
 ·rw [e]; exact I.Be
 ·rw [e]
  obtain ⟨m, hn, _⟩ := I.loc
  refine .cons (by rw [I.ok.kind]; decide) hf hn ?_ I.Be
  exact Heap.get?_none_of_le (Nat.le_trans I.ok.bsz I.ok.above)
theorem Inv.By (I : Inv X pins σ H s) : ∀ b ∈ frs X.stack, b ∈ X.env.locals :: X.fs := fun b hb => by
 rcases I.ok.stk with e | ⟨e, hf⟩
 ·rw [e] at hb; exact List.mem_cons_of_mem _ hb
 ·rw [e] at hb
  unfold frs at hb
  rw [List.filterMap_cons, hf] at hb
  exact hb
theorem Inv.W0 (I : Inv X pins σ H s) : ∀ b ∈ frs X.stack, H b = none := fun b hb => by
 rcases List.mem_cons.mp (I.By b hb) with e | hb
 ·rw [e]; exact I.free
 ·obtain ⟨_, o, ho, _⟩ := I.ok.Be.mem hb
  exact I.base.free b o ho (I.ok.frf b hb) fun z => I.ok.exfs b z hb
theorem Inv.step {g' : Array GenState} {t' : Nat} {d' : Drawn} {ch : List Addr} (I : Inv X pins σ H s)
  (hch : ∀ b ∈ ch, (b ∈ X.ex ∨ X.s₀.heap.objs.size ≤ b) ∧ b ≠ X.env.locals ∧ (∀ x c, X.env.cells.lookup x = some c → c ≠ b) ∧ ∀ p ∈ X.pn ++ pins, p.1 ≠ b)
  (keep : ∀ b o, b ≠ X.env.locals → b ∉ X.fs → b ∉ ch → s.heap.get? b = some o → H b = none → h'.get? b = some o)
  (slot : ∀ b o, b ≠ X.env.locals → b ∈ X.fs → b ∉ ch → s.heap.get? b = some o → H b = none → ∃ sl, h'.get? b = some { o with slots := sl }) (free : ∀ b o, b ∉ ch → s.heap.get? b = some o → H b = none → H' b = none)
  (there : ∀ b o, b ∉ ch → s.heap.get? b = some o → ∃ o', h'.get? b = some o')
  (tups : ∀ b xs, H b = some (.tup xs) → H' b = some (.tup xs)) (frzs : ∀ b o u, H b = some (.frz o u) → H' b = some (.frz o u)) (tbls : ∀ b ps, H b = some (.tbl ps) → ∃ more, H' b = some (.tbl (ps ++ more)))
  (ns : ∀ m, s.heap.Ns X.env.locals m → h'.Ns X.env.locals m) (hok : HOk X.prog X.w H' h') (hg : AllBare g') :
  Inv X pins σ H' { s with heap := h', gens := g', drawn := d', toks := t' } := by
 have neL : ∀ b o, X.s₀.heap.get? b = some o → b ≠ X.env.locals := fun b o e => Nat.ne_of_lt (Nat.lt_of_lt_of_le (Heap.lt_size e) I.ok.above)
 have neC : ∀ b o, X.s₀.heap.get? b = some o → b ∉ X.ex → b ∉ ch := fun b o e hx hb => by
  rcases (hch b hb).1 with z | z
  ·exact hx z
  ·exact absurd (Nat.lt_of_lt_of_le (Heap.lt_size e) z) (Nat.lt_irrefl _)
 have cellK : ∀ x c, X.env.cells.lookup x = some c → ∀ v, s.heap.IsCell c v → h'.IsCell c v := fun x c e v ⟨o, ho, hd⟩ => by
  have nch : c ∉ ch := fun z => (hch c z).2.2.1 x c e rfl
  by_cases hc : c ∈ X.fs
  ·obtain ⟨sl, q⟩ := slot c o (I.cne x c e) hc nch ho (I.freeC x c e)
   exact ⟨_, q, hd⟩
  ·exact ⟨o, keep c o (I.cne x c e) hc nch ho (I.freeC x c e), hd⟩
 refine ⟨I.ok, I.os, hg, ⟨fun b o e n hb hx => ?_, fun b o e n hb hx => ?_, fun b o e n hx => ?_, fun b o e hx => ?_, fun b xs e => tups b xs (I.base.tups b xs e), fun b o xs e => frzs b o xs (I.base.frzs b o xs e), fun b ps e => ?_⟩, ?_, fun x c e => ?_, ?_, fun x c e => ?_, fun p hp => ?_, hok, I.len⟩
 ·exact keep b o (neL b o e) hb (neC b o e hx) (I.base.keep b o e n hb hx) (I.base.free b o e n hx)
 ·obtain ⟨sl, e1⟩ := I.base.slot b o e n hb hx
  obtain ⟨sl', e2⟩ := slot b _ (neL b o e) hb (neC b o e hx) e1 (I.base.free b o e n hx)
  exact ⟨sl', e2⟩
 ·obtain ⟨o', e1⟩ := I.base.there b o e hx
  exact free b o' (neC b o e hx) e1 (I.base.free b o e n hx)
 ·obtain ⟨o', e1⟩ := I.base.there b o e hx
  exact there b o' (neC b o e hx) e1
 ·obtain ⟨m1, e1⟩ := I.base.tbls b ps e
  obtain ⟨m2, e2⟩ := tbls b _ e1
  exact ⟨m1 ++ m2, by rw [e2, Array.append_assoc]⟩
 ·obtain ⟨m, hn, hl⟩ := I.loc
  refine ⟨m, ns m hn, fun i x v e1 e2 e3 => ?_⟩
  obtain ⟨u, r, l⟩ := hl i x v e1 e2 e3
  refine ⟨u, r, ?_⟩
  rcases l with l | ⟨k, c, e, z⟩
  ·exact .inl l
  ·exact .inr ⟨k, c, e, cellK x c e _ z⟩
 ·obtain ⟨v, z⟩ := I.cell x c e
  exact ⟨v, cellK x c e v z⟩
 ·obtain ⟨m, ⟨o, _, _, ho, _⟩, _⟩ := I.loc
  exact free _ o (fun z => (hch _ z).2.1 rfl) ho I.free
 ·obtain ⟨v, o, ho, hd⟩ := I.cell x c e
  exact free c o (fun z => (hch c z).2.2.1 x c e rfl) ho (I.freeC x c e)
 ·obtain ⟨e, n, ne, nf, d⟩ := I.pin p hp
  have nch : p.1 ∉ ch := fun z => (hch p.1 z).2.2.2 p hp rfl
  exact ⟨keep p.1 p.2 ne nf nch e n, free p.1 p.2 nch e n, ne, nf, d⟩
theorem Inv.un {t' : Nat} (I : Inv X pins σ H s) (u : Un X.fs [] H H' s.heap h') (hok : HOk X.prog X.w H' h') : Inv X pins σ H' { s with heap := h', toks := t' } := by
 obtain ⟨m, ⟨o, es, ep, ho, r⟩, _⟩ := id I.loc
 obtain ⟨sl, hL⟩ := u.any ho I.free (by simp)
 exact I.step (g' := s.gens) (d' := s.drawn) (ch := []) (fun _ z => nomatch z) (fun b o _ hb _ e n => u.keep b o e n hb (by simp)) (fun b o _ hb _ e n => u.slot b o e n hb (by simp)) (fun b o _ e n => u.free b o e n (by simp)) (fun b o _ e => u.there b o e (by simp)) u.tups u.frzs u.tbls (fun m' hm => by
  obtain ⟨o', es', ep', ho', r'⟩ := hm
  rw [ho] at ho'; cases ho'
  exact ⟨_, es', ep', hL, r'⟩) hok I.bare
theorem Inv.call {g' : Array GenState} {t' : Nat} {d' : Drawn} {ch : List Addr} (I : Inv X pins σ H s) (u : Un (frs X.stack) ch H H' s.heap h') (hok : HOk X.prog X.w H' h') (hg : AllBare g')
  (hch : ∀ b ∈ ch, (b ∈ X.ex ∨ X.s₀.heap.objs.size ≤ b) ∧ b ≠ X.env.locals ∧ (∀ x c, X.env.cells.lookup x = some c → c ≠ b) ∧ ∀ p ∈ X.pn ++ pins, p.1 ≠ b) :
  Inv X pins σ H' { s with heap := h', gens := g', drawn := d', toks := t' } := by
 obtain ⟨m, ⟨o, es, ep, ho, r⟩, _⟩ := id I.loc
 obtain ⟨sl, hL⟩ := u.any ho I.free fun z => (hch _ z).2.1 rfl
 exact I.step (ch := ch) hch (fun b o hL hb hc e n => u.keep b o e n (fun z => (List.mem_cons.mp (I.By b z)).elim hL hb) hc) (fun b o _ _ hc e n => u.any e n hc) (fun b o hc e n => u.free b o e n hc) (fun b o hc e => u.there b o e hc) u.tups u.frzs u.tbls (fun m' hm => by
  obtain ⟨o', es', ep', ho', r'⟩ := hm
  rw [ho] at ho'; cases ho'
  exact ⟨_, es', ep', hL, r'⟩) hok hg
theorem Inv.turned {t' : Nat} {it : Addr} (I : Inv X pins σ H s) (k : ∀ b o, b ≠ it → s.heap.get? b = some o → h'.get? b = some o) (hn : H it = none) (hL : it ≠ X.env.locals)
  (h1 : it ∈ X.ex ∨ X.s₀.heap.objs.size ≤ it) (h2 : ∀ x c, X.env.cells.lookup x = some c → c ≠ it) (h3 : ∀ p ∈ X.pn ++ pins, p.1 ≠ it) : Inv X pins σ H { s with heap := h', toks := t' } := by
 have nit : ∀ b u, H b = some u → b ≠ it := fun b u e z => by rw [z, hn] at e; cases e
 refine I.step (g' := s.gens) (d' := s.drawn) (ch := [it]) (fun b hb => ?_) (fun b o _ _ hc e _ => k b o (fun z => hc (by simp [z])) e) (fun b o _ _ hc e _ => ⟨o.slots, k b o (fun z => hc (by simp [z])) e⟩) (fun _ _ _ _ n => n)
  (fun b o hc e => ⟨o, k b o (fun z => hc (by simp [z])) e⟩) (fun _ _ e => e) (fun _ _ _ e => e) (fun b ps e => ⟨#[], by rw [e]; simp⟩) (fun m hm => ?_) (fun b u e => ?_) I.bare
 ·have e : b = it := by simpa using hb
  subst e
  exact ⟨h1, hL, h2, h3⟩
 ·obtain ⟨o, es, ep, ho, r⟩ := hm
  exact ⟨o, es, ep, k _ o (Ne.symm hL) ho, r⟩
 ·refine (I.hok b u e).Eu (fun c v hc q => k c v ?_ q) (fun _ q => q) fun _ _ q => q
  rcases hc with z | z
  ·rw [z]; exact nit b u e
  ·exact nit c _ z
theorem Inv.tok (I : Inv X pins σ H s) (t : Nat) : Inv X pins σ H { s with toks := t } := I.un (h' := s.heap) (t' := t) Un.refl I.hok
theorem Inv.kept {t' : Nat} (I : Inv X pins σ H s) (k : ∀ b u, s.heap.get? b = some u → h'.get? b = some u) : Inv X pins σ H { s with heap := h', toks := t' } := I.un (Un.kept k) (I.hok.kept k)
theorem Inv.laid {a : Addr} {o : HO} {t' : Nat} (I : Inv X pins σ H s) (k : ∀ b u, s.heap.get? b = some u → h'.get? b = some u) (hp : s.heap.objs.size ≤ a) (new : Qb X.prog X.w (upd H a o) h' a o) :
  Inv X pins σ (upd H a o) { s with heap := h', toks := t' } := I.un (Un.laid k hp (I.hok.fresh hp)) (I.hok.laid k hp new)
theorem Inv.write {x e : Addr} {o : HO} {t' : Nat} (I : Inv X pins σ H s) (mu : Mut (H x)) (he : e = x ∨ H e = some (.own x)) (k : ∀ b u, b ≠ e → s.heap.get? b = some u → h'.get? b = some u) (heo : ∃ u, h'.get? e = some u)
  (new : Qb X.prog X.w (upd H x o) h' x o) : Inv X pins σ (upd H x o) { s with heap := h', toks := t' } := I.un (Un.write mu he k heo) (I.hok.write mu he k heo new)
theorem Inv.Ve {pins' : List (Addr × Obj)} (I : Inv X pins σ H s) (h : ∀ p ∈ pins', s.heap.get? p.1 = some p.2 ∧ H p.1 = none ∧ p.1 ≠ X.env.locals ∧ p.1 ∉ X.fs ∧ ∀ v, p.2.data ≠ .cell v) : Inv X pins' σ H s :=
 ⟨I.ok, I.os, I.bare, I.base, I.loc, I.cell, I.free, I.freeC, fun p hp => (List.mem_append.mp hp).elim (fun z => I.pin p (List.mem_append_left _ z)) (h p), I.hok, I.len⟩
theorem X6 {N : List Str} (hN : N.Nodup) {i j : Nat} {x : Str} (a : N[i]? = some x) (b : N[j]? = some x) : i = j := by
 obtain ⟨h1, e1⟩ := List.getElem?_eq_some_iff.mp a
 obtain ⟨h2, e2⟩ := List.getElem?_eq_some_iff.mp b
 exact (List.getElem_inj hN).mp (e1.trans e2.symm)
theorem KR {M : Model} {A : Around} {E : Value → Shared → Prop} {i : Nat} {x : Str} {v : V} {u : Value} {Q : Unit → Shared → Prop} (I : Inv X pins σ H s) (hN : X.N.Nodup) (hi : X.N[i]? = some x) (hx : Loc X.env.scope x) (r : RelV v u)
  (h : ∀ s', Inv X pins (σ.set i (some v)) H s' → (∃ a, Heap.SameBut a s.heap s'.heap ∧ (a = X.env.locals ∨ X.env.cells.lookup x = some a)) → Q () s') (hf : X.fn x = true ∨ X.env.scope.names.lookup x = some .local := by first | exact .inl rfl | exact .inr rfl | assumption) : wpAny M A (storeName X.env x u) Q E s := by
 obtain ⟨m, hn, hl⟩ := id I.loc
 have hcls : (X.env.scope.kind == .class || (X.env.scope.kind == .module && X.env.locals != X.env.globals)) = false := by rw [I.ok.kind]; rfl
 have hiσ : i < σ.length := by rw [I.len]; exact (List.getElem?_eq_some_iff.mp hi).1
 have cne := I.cne
 have tracked : ∀ {a : Addr} {h' : Heap}, (∃ o, s.heap.get? a = some o ∧ H a = none) → Heap.SameBut a s.heap h' → HOk X.prog X.w H h' := fun {a h'} ha hs b ob e => by
  obtain ⟨_, _, hfree⟩ := ha
  refine (I.hok b ob e).Eu (fun c w' hc q => (hs.2 c ?_).trans q) (fun _ q => q) fun _ _ q => q
  rintro rfl
  rcases hc with rfl | hc
  ·rw [hfree] at e; cases e
  ·rw [hfree] at hc; cases hc
 rcases hx with hk | hk
 ·refine wpAny_storeName_local hk hn (fun h' hn' hs => ?_) hcls
  obtain ⟨oL, _, _, hoL, _⟩ := id hn
  refine h _ ⟨I.ok, I.os, I.bare, ⟨fun b o e n hb hx => ?_, fun b o e n hb hx => ?_, I.base.free, fun b o e hx => ?_, I.base.tups, I.base.frzs, I.base.tbls⟩, ⟨_, hn', fun j y v' e1 e2 e3 => ?_⟩, fun y c e => ?_, I.free, I.freeC, fun p hp => ?_, tracked ⟨oL, hoL, I.free⟩ hs, by simpa using I.len⟩ ⟨_, hs, .inl rfl⟩
  ·exact (hs.2 b (Nat.ne_of_lt (Nat.lt_of_lt_of_le (Heap.lt_size e) I.ok.above))).trans (I.base.keep b o e n hb hx)
  ·obtain ⟨sl, e1⟩ := I.base.slot b o e n hb hx
   exact ⟨sl, (hs.2 b (Nat.ne_of_lt (Nat.lt_of_lt_of_le (Heap.lt_size e) I.ok.above))).trans e1⟩
  ·obtain ⟨o', e1⟩ := I.base.there b o e hx
   exact ⟨o', (hs.2 b (Nat.ne_of_lt (Nat.lt_of_lt_of_le (Heap.lt_size e) I.ok.above))).trans e1⟩
  ·by_cases hj : j = i
   ·subst hj
    rw [hi] at e1; cases e1
    rw [List.getElem?_set_self hiσ] at e2
    cases e2
    exact ⟨u, r, .inl ⟨hk, by simp⟩⟩
   ·rw [List.getElem?_set_ne (Ne.symm hj)] at e2
    obtain ⟨u', r', q⟩ := hl j y v' e1 e2 e3
    refine ⟨u', r', ?_⟩
    rcases q with ⟨k, e⟩ | ⟨k, c, e, z⟩
    ·refine .inl ⟨k, ?_⟩
     have : y ≠ x := fun e => hj (X6 hN e1 (e ▸ hi))
     simp [this, e]
    ·exact .inr ⟨k, c, e, z.sameBut hs (cne y c e)⟩
  ·obtain ⟨w', z⟩ := I.cell y c e
   exact ⟨w', z.sameBut hs (cne y c e)⟩
  ·obtain ⟨e, n, ne, nf, d⟩ := I.pin p hp
   exact ⟨(hs.2 p.1 ne).trans e, n, ne, nf, d⟩
 ·have hfn : X.fn x = true := by
   rcases hf with z | z
   ·exact z
   ·rw [z] at hk; cases hk
  obtain ⟨c, hc⟩ := I.ok.has x (.inl hk)
  obtain ⟨w', z⟩ := I.cell x c hc
  refine wpAny_storeName_cell I.ok.kind hk hc z (fun h' hc' hs => ?_)
  obtain ⟨oc, hoc, hocd⟩ := id z
  refine h { s with heap := h' } ⟨I.ok, I.os, I.bare, ⟨fun b o e n hb hx => ?_, fun b o e n hb hx => ?_, I.base.free, fun b o e hx => ?_, I.base.tups, I.base.frzs, I.base.tbls⟩, ⟨m, hn.sameBut hs (Ne.symm (cne x c hc)), fun j y v' e1 e2 e3 => ?_⟩, fun y c' e => ?_, I.free, I.freeC, fun p hp => ?_, tracked ⟨oc, hoc, I.freeC x c hc⟩ hs, by simpa using I.len⟩ ⟨c, hs, .inr hc⟩
  ·exact (hs.2 b (Nat.ne_of_lt (Nat.lt_of_lt_of_le (Heap.lt_size e) (I.ok.cab x c hfn hc)))).trans (I.base.keep b o e n hb hx)
  ·obtain ⟨sl, e1⟩ := I.base.slot b o e n hb hx
   exact ⟨sl, (hs.2 b (Nat.ne_of_lt (Nat.lt_of_lt_of_le (Heap.lt_size e) (I.ok.cab x c hfn hc)))).trans e1⟩
  ·obtain ⟨o', e1⟩ := I.base.there b o e hx
   exact ⟨o', (hs.2 b (Nat.ne_of_lt (Nat.lt_of_lt_of_le (Heap.lt_size e) (I.ok.cab x c hfn hc)))).trans e1⟩
  ·by_cases hj : j = i
   ·subst hj
    rw [hi] at e1; cases e1
    rw [List.getElem?_set_self hiσ] at e2
    cases e2
    exact ⟨u, r, .inr ⟨.inl hk, c, hc, hc'⟩⟩
   ·rw [List.getElem?_set_ne (Ne.symm hj)] at e2
    obtain ⟨u', r', q⟩ := hl j y v' e1 e2 e3
    refine ⟨u', r', ?_⟩
    rcases q with q | ⟨k, c', e, z'⟩
    ·exact .inl q
    ·refine .inr ⟨k, c', e, z'.sameBut hs ?_⟩
     rintro rfl
     exact hj (X6 hN e1 (I.ok.inj _ _ _ e hc ▸ hi))
  ·by_cases hcc : c' = c
   ·subst hcc; exact ⟨_, hc'⟩
   ·obtain ⟨w2, z2⟩ := I.cell y c' e
    exact ⟨w2, z2.sameBut hs hcc⟩
  ·obtain ⟨e, n, ne, nf, d⟩ := I.pin p hp
   refine ⟨(hs.2 p.1 ?_).trans e, n, ne, nf, d⟩
   intro q
   rw [q, hoc] at e
   have q' : oc = p.2 := Option.some.inj e
   exact d w' (by rw [← q']; exact hocd)
theorem Gn {M : Model} {A : Around} {E : Value → Shared → Prop} {i : Nat} {x : Str} {v : V} {u : Value} {Q : Unit → Shared → Prop} (I : Inv X pins σ H s) (hN : X.N.Nodup) (hi : X.N[i]? = some x) (hx : Loc X.env.scope x) (r : RelV v u)
  (h : ∀ s', Inv X pins (σ.set i (some v)) H s' → Q () s') (hf : X.fn x = true ∨ X.env.scope.names.lookup x = some .local := by first | exact .inl rfl | exact .inr rfl | assumption) : wpAny M A (storeName X.env x u) Q E s :=
 KR I hN hi hx r (fun s' I' _ => h s' I') hf
theorem Inv.CU {s' : Shared} {ch : List Addr} (I : Inv X pins σ H s) (ho : s'.os = s.os) (u : Un (frs X.stack) ch H H' s.heap s'.heap) (hok : HOk X.prog X.w H' s'.heap) (hg : AllBare s'.gens)
  (hch : ∀ b ∈ ch, (b ∈ X.ex ∨ X.s₀.heap.objs.size ≤ b) ∧ b ≠ X.env.locals ∧ (∀ x c, X.env.cells.lookup x = some c → c ≠ b) ∧ ∀ p ∈ X.pn ++ pins, p.1 ≠ b) : Inv X pins σ H' s' := by
 obtain ⟨h', g', d', t', o'⟩ := s'
 have e : o' = s.os := ho
 subst e
 exact I.call (g' := g') (t' := t') (d' := d') u hok hg hch
end
noncomputable abbrev XK := Value → Option Addr → Hp → Prop
noncomputable abbrev St := List (Option V)
noncomputable abbrev VK := V → Hp → Prop
noncomputable abbrev TE := St → Hp → VK → Prop
noncomputable abbrev TT := St → Hp → (Bool → Hp → Prop) → Prop
noncomputable abbrev TA := St → Hp → (List V → Hp → Prop) → Prop
structure Ends where
 nx : St → Hp → Prop
 rt : VK
 bk : St → Hp → Prop := fun _ _ => False
 ct : St → Hp → Prop := fun _ _ => False
noncomputable abbrev TS := Ends → St → Hp → Prop
noncomputable def EP (X : Cx) (pins : List (Addr × Obj)) (σ : St) (Q : VK) (u : Value) (s' : Shared) : Prop := ∃ v H', Inv X pins σ H' s' ∧ RelV v u ∧ Q v H'
noncomputable def TP (X : Cx) (pins : List (Addr × Obj)) (σ : St) (Q : Bool → Hp → Prop) (b : Bool) (s' : Shared) : Prop := ∃ H', Inv X pins σ H' s' ∧ Q b H'
noncomputable def AP (X : Cx) (pins : List (Addr × Obj)) (σ : St) (Q : List V → Hp → Prop) (us : List Value) (s' : Shared) : Prop := ∃ vs H', Inv X pins σ H' s' ∧ Vals vs us ∧ Q vs H'
noncomputable def SP (X : Cx) (pins : List (Addr × Obj)) (D : Ends) (f : Flow) (s' : Shared) : Prop :=
 match f with
 | .next => ∃ σ' H', Inv X pins σ' H' s' ∧ D.nx σ' H'
 | .brk => ∃ σ' H', Inv X pins σ' H' s' ∧ D.bk σ' H'
 | .cont => ∃ σ' H', Inv X pins σ' H' s' ∧ D.ct σ' H'
 | .ret u => ∃ v σ' H', Inv X pins σ' H' s' ∧ RelV v u ∧ D.rt v H'
noncomputable def PE (X : Cx) (e : Expr) (t : TE) : Prop :=
 ∀ (pins : List (Addr × Obj)) (s : Shared) (σ : St) (H : Hp) (Q : VK), Inv X pins σ H s → t σ H Q → wpAny (model X.prog X.w) X.A (eval e X.env) (EP X pins σ Q) X.xe s
noncomputable def PT (X : Cx) (e : Expr) (t : TT) : Prop :=
 ∀ (pins : List (Addr × Obj)) (s : Shared) (σ : St) (H : Hp) (Q : Bool → Hp → Prop), Inv X pins σ H s → t σ H Q → wpAny (model X.prog X.w) X.A (isTrue e X.env (eval e X.env)) (TP X pins σ Q) X.xe s
noncomputable def PW (X : Cx) (e : Expr) (t : TT) : Prop :=
 ∀ (whole : Sem Value) (pins : List (Addr × Obj)) (s : Shared) (σ : St) (H : Hp) (Q : Bool → Hp → Prop), Inv X pins σ H s → t σ H Q → wpAny (model X.prog X.w) X.A (isTrue e X.env whole) (TP X pins σ Q) X.xe s
theorem PW.pt {X : Cx} {e : Expr} {t : TT} (h : PW X e t) : PT X e t := h _
noncomputable def PA (X : Cx) (es : List Expr) (t : TA) : Prop :=
 ∀ (pos : Pos) (pins : List (Addr × Obj)) (s : Shared) (σ : St) (H : Hp) (Q : List V → Hp → Prop), Inv X pins σ H s → t σ H Q → wpAny (model X.prog X.w) X.A (spliced (backTo pos (starEach es X.env))) (AP X pins σ Q) X.xe s
noncomputable def PS (X : Cx) (st : Stmt) (t : TS) : Prop :=
 ∀ (pins : List (Addr × Obj)) (s : Shared) (σ : St) (H : Hp) (D : Ends), Inv X pins σ H s → t D σ H → wpAny (model X.prog X.w) X.A (exec st X.env) (SP X pins D) X.xe s
noncomputable def PSs (X : Cx) (st : List Stmt) (t : TS) : Prop :=
 ∀ (pins : List (Addr × Obj)) (s : Shared) (σ : St) (H : Hp) (D : Ends), Inv X pins σ H s → t D σ H → wpAny (model X.prog X.w) X.A (execs st X.env) (SP X pins D) X.xe s
theorem thn {α : Type} {t : Sem α} {Q Q' : α → Shared → Prop} {M : Model} {A : Around} {E : Value → Shared → Prop} {s : Shared} (h : wpAny M A t Q E s) (hQ : ∀ a s, Q a s → Q' a s) : wpAny M A t Q' E s := wpAny_mono h hQ fun _ _ x => x
end L2
namespace L2
open PySem PySem.Spec PyProof.Rows
section
variable {X : Cx}
noncomputable def Zd3 (i : Nat) : TE := fun σ H Q => ∃ v, σ[i]? = some (some v) ∧ Q v H
noncomputable def tC (v : V) : TE := fun _ H Q => Q v H
theorem C5 {i : Nat} {x : Str} {pos : Pos} (hN : X.N[i]? = some x) (hv : Vis X.env.scope x) (hd : (x == ("__debug__" : Str)) = false := by decide) (hcd : (x == ("__classdict__" : Str)) = false := by decide) : PE X (.Name x pos) (Zd3 i) := by
 intro pins s σ H Q I h
 obtain ⟨v, e, h⟩ := h
 obtain ⟨m, hn, hl⟩ := I.loc
 obtain ⟨u, r, l⟩ := hl i x v hN e hv
 have fin : EP X pins σ Q u s := ⟨v, H, I, r, h⟩
 rcases l with ⟨hk, hm⟩ | ⟨hk, c, hc, hcell⟩
 ·exact wpAny_Name (wpAny_loadName_local I.ok.kind hk hn hm fin) hd
 ·rcases hk with hk | hk
  ·exact wpAny_Name (wpAny_loadName_cell I.ok.kind hk hc hcell fin) hd
  ·exact wpAny_Name (wpAny_loadName_free I.ok.kind hk hc hcell fin hcd) hd
theorem Mf {i j pos} : PE X (.Constant (.int i) j pos) (tC (.int i)) := fun _ _ _ H _ I h => wpAny_Constant_int ⟨.int i, H, I.tok _, ⟨_, rfl⟩, h⟩
theorem ZbL {b j pos} : PE X (.Constant (.bool b) j pos) (tC (.bl b)) := fun _ _ _ H _ I h => Constant_bool ⟨.bl b, H, I, rfl, h⟩
theorem RG {j pos} : PE X (.Constant .none j pos) (tC .non) := fun _ _ _ H _ I h => Constant_none ⟨.non, H, I, rfl, h⟩
theorem RT {x j pos} : PE X (.Constant (.str x) j pos) (tC (.str x)) := fun _ _ _ H _ I h => Calls.Constant_str ⟨.str x, H, I.tok _, ⟨_, rfl⟩, h⟩
noncomputable def Gl (X : Cx) (x : Str) : Prop := X.env.kindOf x = some .globalImplicit
theorem Yf {E : Value → Shared → Prop} {pins : List (Addr × Obj)} {s : Shared} {σ : St} {H : Hp} {x : Str} {u : Value} {pos : Pos} {Q : Value → Shared → Prop} (I : Inv X pins σ H s) (hg : Gl X x) (hm : X.mg x = some u) (h : Q u s)
  (hd : (x == ("__debug__" : Str)) = false := by decide) : wpAny (model X.prog X.w) X.A (eval (.Name x pos) X.env) Q E s :=
 Calls.Name_function_global I.ok.kind hg (Calls.loadGlobal_global (by rw [I.ok.glob]; exact I.mod.glob.keeps I.bk) hm h) hd
theorem WE {E : Value → Shared → Prop} {pins : List (Addr × Obj)} {s : Shared} {σ : St} {H : Hp} {x : Str} {u : Value} {pos : Pos} {Q : Value → Shared → Prop} (I : Inv X pins σ H s) (hg : Gl X x) (hm : X.mg x = none) (hv : bootBuiltins x = some u) (h : Q u s)
  (hn : x ≠ "__name__" := by decide) (hd : (x == ("__debug__" : Str)) = false := by decide) : wpAny (model X.prog X.w) X.A (eval (.Name x pos) X.env) Q E s := by
 obtain ⟨mb, h1, h2⟩ := I.mod.blt
 exact Calls.Name_function_global I.ok.kind hg (Calls.loadGlobal_builtin (by rw [I.ok.glob]; exact I.mod.glob.keeps I.bk) hm (by rw [I.ok.blt]; exact h1.keeps I.bk) ((h2 x hn).trans hv) h) hd
theorem UZ {x : Str} {v : V} {u : Value} {pos : Pos} (hg : Gl X x) (hm : X.mg x = some u) (r : RelV v u) (hd : (x == ("__debug__" : Str)) = false := by decide) : PE X (.Name x pos) (tC v) :=
 fun _ _ _ H _ I h => Yf I hg hm ⟨v, H, I, r, h⟩ hd
theorem U1 {x : Str} {v : V} {u : Value} {pos : Pos} (hg : Gl X x) (hm : X.mg x = none) (hv : bootBuiltins x = some u) (r : RelV v u) (hn : x ≠ "__name__" := by decide) (hd : (x == ("__debug__" : Str)) = false := by decide) : PE X (.Name x pos) (tC v) :=
 fun _ _ _ H _ I h => WE I hg hm hv ⟨v, H, I, r, h⟩ hn hd
noncomputable def t2I (ta tb : TE) (k : Int → Int → Hp → Prop) : St → Hp → Prop := fun σ H => ta σ H fun x H1 => tb σ H1 fun y H2 => ∃ i j, x = .int i ∧ y = .int j ∧ k i j H2
noncomputable def Zf6 (ta tb : TE) : TE := fun σ H Q => t2I ta tb (fun i j H2 => Q (.int (i + j)) H2) σ H
noncomputable def ZfG (ta tb : TE) : TE := fun σ H Q => t2I ta tb (fun i j H2 => Q (.int (i - j)) H2) σ H
noncomputable def ZfI (ta tb : TE) : TE := fun σ H Q => t2I ta tb (fun i j H2 => (-(2 ^ 64) < i ∧ i < 2 ^ 64) ∧ Q (.int (i * j)) H2) σ H
variable {a b : Expr} {ta tb : TE} {pos : Pos}
noncomputable def PC (X : Cx) (op : CmpOp) (a b : Expr) (t : TE) : Prop :=
 ∀ (pins : List (Addr × Obj)) (s : Shared) (σ : St) (H : Hp) (Q : VK), Inv X pins σ H s → t σ H Q →
  wpAny (model X.prog X.w) X.A (eval a X.env) (fun v s₁ => wpAny (model X.prog X.w) X.A (eval b X.env) (fun u s₂ => wpAny (model X.prog X.w) X.A (compareOp op v u) (EP X pins σ Q) X.xe s₂) X.xe s₁) X.xe s
noncomputable def Pt (p : Int → Int → Bool) (ta tb : TE) : TE := fun σ H Q => t2I ta tb (fun i j H2 => Q (.bl (p i j)) H2) σ H
noncomputable abbrev tLt : TE → TE → TE := Pt fun i j => decide (i < j)
noncomputable abbrev tLe : TE → TE → TE := Pt fun i j => decide (i ≤ j)
noncomputable abbrev tGt : TE → TE → TE := Pt fun i j => decide (j < i)
noncomputable abbrev tGe : TE → TE → TE := Pt fun i j => decide (j ≤ i)
noncomputable abbrev ZfY : TE → TE → TE := Pt fun i j => decide (i = j)
noncomputable abbrev Zgn : TE → TE → TE := Pt fun i j => !decide (i = j)
noncomputable def Zgb (ta : TE) : TE := fun σ H Q => ta σ H fun x H1 => Q (.bl (decide (x = .non))) H1
noncomputable def Zer (ta : TE) : TE := fun σ H Q => ta σ H fun x H1 => Q (.bl (!decide (x = .non))) H1
noncomputable def tB (t : TE) : TT := fun σ H Q => t σ H fun x H1 => ∃ c, x = .bl c ∧ Q c H1
theorem S7 {e : Expr} {t : TE} (h : PE X e t) (he : ∀ whole, isTrue e X.env whole = (do let v ← whole; standAt e.pos; holding [v] (truthy v)) := by intro _; rfl) : PT X e (tB t) := by
 intro pins s σ H Q I hw
 refine isTrue_plain (thn (h pins s σ H _ I hw) fun v s1 ⟨x, H1, I1, r1, q1⟩ => ?_) (he _)
 obtain ⟨d, rfl, q⟩ := q1
 cases r1
 exact wpAny_truthy_bool ⟨H1, I1, q⟩
variable {tA tB' : TT} {rest : List Expr}
noncomputable def ZeZ (t u : TT) : TT := fun σ H Q => t σ H fun c H1 => if c = true then u σ H1 Q else Q false H1
noncomputable def tOr (t u : TT) : TT := fun σ H Q => t σ H fun c H1 => if c = true then Q true H1 else u σ H1 Q
noncomputable def Ze5 (t : TT) : TT := fun σ H Q => t σ H fun c H1 => Q (!c) H1
theorem ON (ha : PT X a tA) : PW X (.BoolOp .And [a] pos) tA := by
 intro wh pins s σ H Q I h
 refine isTrue_and (thn (ha pins s σ H Q I h) fun c s1 e => ?_)
 cases c with
 | true => exact isTrue_and_nil e
 | false => exact e
theorem PN (ha : PT X a tA) : PW X (.BoolOp .Or [a] pos) tA := by
 intro wh pins s σ H Q I h
 refine isTrue_or (thn (ha pins s σ H Q I h) fun c s1 e => ?_)
 cases c with
 | false => exact isTrue_or_nil e
 | true => exact e
theorem So (ha : PT X a tA) (hb : PW X (.BoolOp .And (b :: rest) pos) tB') : PW X (.BoolOp .And (a :: b :: rest) pos) (ZeZ tA tB') := by
 intro wh pins s σ H Q I h
 refine isTrue_and (thn (ha pins s σ H _ I h) fun c s1 ⟨H1, I1, q1⟩ => ?_)
 cases c with
 | true => exact hb wh pins s1 σ H1 Q I1 q1
 | false => exact ⟨H1, I1, q1⟩
theorem Zb5 (ha : PT X a tA) (hb : PW X (.BoolOp .Or (b :: rest) pos) tB') : PW X (.BoolOp .Or (a :: b :: rest) pos) (tOr tA tB') := by
 intro wh pins s σ H Q I h
 refine isTrue_or (thn (ha pins s σ H _ I h) fun c s1 ⟨H1, I1, q1⟩ => ?_)
 cases c with
 | true => exact ⟨H1, I1, q1⟩
 | false => exact hb wh pins s1 σ H1 Q I1 q1
theorem PF (ha : PT X a tA) : PT X (.UnaryOp .Not a pos) (Ze5 tA) := by
 intro pins s σ H Q I h
 exact isTrue_not (ha pins s σ H (fun c H1 => Q (!c) H1) I h)
noncomputable def Zcm (ta tb : TE) : TE := fun σ H Q => ta σ H fun x H1 => ∃ c, x = .bl c ∧ if c = true then tb σ H1 Q else Q (.bl false) H1
noncomputable def ZfF (ta tb : TE) : TE := fun σ H Q => ta σ H fun x H1 => ∃ c, x = .bl c ∧ if c = true then Q (.bl true) H1 else tb σ H1 Q
noncomputable def Zbq (ta : TE) : TE := fun σ H Q => ta σ H fun x H1 => ∃ c, x = .bl c ∧ Q (.bl (!c)) H1
theorem RH {op} {t : TE} (h : PE X a t) : PE X (.BoolOp op [a] pos) t := fun pins s σ H Q I hw => BoolOp_one (h pins s σ H Q I hw)
theorem Tb (ha : PE X a ta) (hb : PE X (.BoolOp .And (b :: rest) pos) tb) : PE X (.BoolOp .And (a :: b :: rest) pos) (Zcm ta tb) := by
 intro pins s σ H Q I h
 refine BoolOp_and (thn (ha pins s σ H _ I h) fun v s1 ⟨x, H1, I1, r1, q1⟩ => ?_)
 obtain ⟨c, rfl, q1⟩ := q1
 cases r1
 refine wpAny_truthy_bool ?_
 cases c with
 | true => exact hb pins s1 σ H1 Q I1 q1
 | false => exact ⟨.bl false, H1, I1, rfl, q1⟩
theorem Tv (ha : PE X a ta) : PE X (.UnaryOp .Not a pos) (Zbq ta) := by
 intro pins s σ H Q I h
 refine UnaryOp_ (thn (ha pins s σ H _ I h) fun v s1 ⟨x, H1, I1, r1, q1⟩ => ?_)
 obtain ⟨c, rfl, q1⟩ := q1
 cases r1
 exact not_of (wpAny_truthy_bool ⟨.bl (!c), H1, I1, rfl, q1⟩)
noncomputable def tIf (t : TT) (ta tb : TE) : TE := fun σ H Q => t σ H fun c H1 => if c = true then ta σ H1 Q else tb σ H1 Q
end
end L2
namespace L2
open PySem PySem.Spec PyProof.Rows
noncomputable def SqL (K : PySem.W.Frag) (H : Hp) (a : Addr) (xs : List V) : Prop :=
 Rd H a (.lst xs) ∨
  ∃ (o : Obj) (its : Array Value) (n : Nat), K.lookup a = some o ∧ o.cls = .type "list" ∧ o.dict = none ∧ o.data = .seq its n ∧ its.size ≤ sizeLine ∧ Vals xs its.toList
noncomputable def SqT (K : PySem.W.Frag) (H : Hp) (a : Addr) (xs : List V) : Prop :=
 Rd H a (.tup xs) ∨
  ∃ (o : Obj) (its : Array Value) (n : Nat), K.lookup a = some o ∧ o.cls = .type "tuple" ∧ o.data = .seq its n ∧ its.size ≤ sizeLine ∧ Vals xs its.toList
noncomputable def Ze6 : Value → Option V
 | .none => some .non
 | .bool b => some (.bl b)
 | .int i _ => some (.int i)
 | .str x _ => some (.str x)
 | .bytes b _ => some (.byt b)
 | .float b _ => some (.flt b)
 | .ref a => some (.ref a)
 | .type n => some (.ty n)
 | _ => none
theorem RelV.abs {x : V} {u : Value} (r : RelV x u) : Ze6 u = some x := by
 cases x with
 | non => cases r; rfl
 | bl _ => cases r; rfl
 | int _ => obtain ⟨t, rfl⟩ := r; rfl
 | str _ => obtain ⟨t, rfl⟩ := r; rfl
 | byt _ => obtain ⟨t, rfl⟩ := r; rfl
 | flt _ => obtain ⟨t, rfl⟩ := r; rfl
 | ref _ => cases r; rfl
 | ty _ => cases r; rfl
theorem RelV.inj {x y : V} {u : Value} (r : RelV x u) (q : RelV y u) : x = y := Option.some.inj (r.abs.symm.trans q.abs)
theorem Vals.inj : ∀ {xs ys : List V} {us : List Value}, Vals xs us → Vals ys us → xs = ys
 | _, _, _, .nil, .nil => rfl
 | _, _, _, .cons r t, .cons r' t' => by rw [r.inj r', Vals.inj t t']
section
variable {X : Cx} {pins : List (Addr × Obj)} {σ : St} {H : Hp} {s : Shared} {a : Addr} {xs ys : List V}
theorem SqL.of {K : PySem.W.Frag} (h : H a = some (.lst xs)) : SqL K H a xs := .inl (.inl h)
theorem SqT.of {K : PySem.W.Frag} (h : H a = some (.tup xs)) : SqT K H a xs := .inl (.inl h)
theorem Inv.list (I : Inv X pins σ H s) (h : SqL X.K H a xs) : ∃ its : List Value, Vals xs its ∧ PlainL s.heap a its.toArray ∧ xs.length ≤ sizeLine := by
 rcases h with h | ⟨o, its, n, hk, hc, hd, hs, hz, r⟩
 ·obtain ⟨z, its, n, r, e⟩ := h.ok I.hok
  exact ⟨its, r, ⟨_, n, e, rfl, rfl, rfl⟩, z⟩
 ·refine ⟨its.toList, r, ⟨o, n, I.kIn a o hk, hc, hd, by simpa using hs⟩, ?_⟩
  have e := r.length
  simp only [Array.length_toList] at e
  omega
theorem Inv.tuple (I : Inv X pins σ H s) (h : SqT X.K H a xs) : ∃ its : List Value, Vals xs its ∧ IsTup s.heap a its.toArray ∧ xs.length ≤ sizeLine := by
 rcases h with h | ⟨o, its, n, hk, hc, hs, hz, r⟩
 ·obtain ⟨z, its, r, p⟩ := h.ok I.hok
  exact ⟨its, r, p, z⟩
 ·refine ⟨its.toList, r, ⟨o, I.kIn a o hk, hc, n, by simpa using hs⟩, ?_⟩
  have e := r.length
  simp only [Array.length_toList] at e
  omega
theorem Inv.FR (I : Inv X pins σ H s) (h : SqL X.K H a xs) (h' : SqL X.K H a ys) : xs = ys := by
 obtain ⟨its, r, ⟨o, n, e, _, _, d⟩, _⟩ := I.list h
 obtain ⟨its', r', ⟨o', n', e', _, _, d'⟩, _⟩ := I.list h'
 rw [e] at e'; cases e'
 rw [d] at d'
 injection d' with d1 _
 have : its = its' := by simpa using congrArg Array.toList d1
 subst this
 exact r.inj r'
theorem Inv.BQ (I : Inv X pins σ H s) (h : SqT X.K H a xs) (h' : SqT X.K H a ys) : xs = ys := by
 obtain ⟨its, r, ⟨o, e, _, n, d⟩, _⟩ := I.tuple h
 obtain ⟨its', r', ⟨o', e', _, n', d'⟩, _⟩ := I.tuple h'
 rw [e] at e'; cases e'
 rw [d] at d'
 injection d' with d1 _
 have : its = its' := by simpa using congrArg Array.toList d1
 subst this
 exact r.inj r'
end
noncomputable abbrev Cx.Jm (X : Cx) (E : Value → Shared → Prop) : Cx := { X with xe := E }
noncomputable abbrev Cx.nox (X : Cx) : Cx := X.Jm fun _ _ => False
theorem Cx.Ok.Jm {X : Cx} (ok : X.Ok) (E : Value → Shared → Prop) : (X.Jm E).Ok :=
 ⟨ok.mod, ok.kind, ok.glob, ok.blt, ok.above, ok.inj, ok.has, ok.cab, ok.hd, ok.frames, ok.stk, ok.exf, ok.bs, ok.bsz, ok.noex, ok.exfs, ok.Be, ok.frf⟩
theorem Cx.Ok.Qd {X : Cx} {E : Value → Shared → Prop} (ok : (X.Jm E).Ok) : X.Ok :=
 ⟨ok.mod, ok.kind, ok.glob, ok.blt, ok.above, ok.inj, ok.has, ok.cab, ok.hd, ok.frames, ok.stk, ok.exf, ok.bs, ok.bsz, ok.noex, ok.exfs, ok.Be, ok.frf⟩
section
variable {X : Cx} {pins : List (Addr × Obj)} {σ : St} {H : Hp} {s : Shared} {E : Value → Shared → Prop}
theorem Inv.Jm (I : Inv X pins σ H s) (E : Value → Shared → Prop) : Inv (X.Jm E) pins σ H s := ⟨I.ok.Jm E, I.os, I.bare, I.base, I.loc, I.cell, I.free, I.freeC, I.pin, I.hok, I.len⟩
theorem Inv.Qd (I : Inv (X.Jm E) pins σ H s) : Inv X pins σ H s := ⟨I.ok.Qd, I.os, I.bare, I.base, I.loc, I.cell, I.free, I.freeC, I.pin, I.hok, I.len⟩
theorem SP.Qd {D : Ends} {f : Flow} {s' : Shared} (h : SP (X.Jm E) pins D f s') : SP X pins D f s' := by
 cases f with
 | next => obtain ⟨σ', H', I, q⟩ := h; exact ⟨σ', H', I.Qd, q⟩
 | brk => obtain ⟨σ', H', I, q⟩ := h; exact ⟨σ', H', I.Qd, q⟩
 | cont => obtain ⟨σ', H', I, q⟩ := h; exact ⟨σ', H', I.Qd, q⟩
 | ret u => obtain ⟨v, σ', H', I, r, q⟩ := h; exact ⟨v, σ', H', I.Qd, r, q⟩
theorem PSs.nox {st : List Stmt} {t : TS} (h : PSs X.nox st t) : PSs X st t := fun pins s σ H D I hw =>
 wpAny_mono (h pins s σ H D (I.Jm _) hw) (fun _ _ q => q.Qd) fun _ _ z => False.elim z
end
section
variable {X : Cx} {st : Stmt} {rest : List Stmt} {t u : TS} {e : Expr} {te : TE} {pos : Pos}
noncomputable def ZaX : TS := fun D σ H => D.nx σ H
noncomputable def Zfc (t u : TS) : TS := fun D σ H => t { D with nx := u D } σ H
theorem MY : PSs X [] ZaX := fun _ _ σ H _ I h => wpAny_execs_nil ⟨σ, H, I, h⟩
theorem ES (h1 : PS X st t) (h2 : PSs X rest u) : PSs X (st :: rest) (Zfc t u) := by
 intro pins s σ H D I h
 refine wpAny_execs_cons (thn (h1 pins s σ H { D with nx := u D } I h) fun f s1 q => ?_)
 cases f with
 | next =>
  obtain ⟨σ', H', I', q⟩ := q
  exact h2 pins s1 σ' H' D I' q
 | ret v => exact q
 | brk => exact q
 | cont => exact q
theorem C3 (h1 : PS X st t) : PSs X [st] t := by
 intro pins s σ H D I h
 refine wpAny_execs_cons (thn (h1 pins s σ H D I h) fun f s1 q => ?_)
 cases f with
 | next => exact wpAny_execs_nil q
 | ret v => exact q
 | brk => exact q
 | cont => exact q
noncomputable def Zdg : TS := fun D σ H => D.bk σ H
noncomputable def ZeS : TS := fun D σ H => D.ct σ H
theorem Inv.quiet {pins : List (Addr × Obj)} {σ : St} {H : Hp} {s : Shared} (I : Inv X pins σ H s) : interactive X.env = false := by simp [interactive, I.ok.kind]
noncomputable def ZbS (te : TE) : TS := fun D σ H => te σ H fun _ H1 => D.nx σ H1
theorem Nw (he : PE X e te) (hs : swapsWith e none pos.line X.env = pure false := by rfl) : PS X (.Expr e pos) (ZbS te) := by
 intro pins s σ H D I h
 exact wpAny_Expr_any (thn (he pins s σ H _ I h) fun v s1 ⟨x, H1, I1, r1, q1⟩ => ⟨σ, H1, I1, q1⟩) I.quiet hs
noncomputable def Ze8 (te : TE) : TS := fun D σ H => te σ H D.rt
theorem P7 (he : PE X e te) : PS X (.Return (some e) pos) (Ze8 te) := by
 intro pins s σ H D I h
 exact wpAny_Return_some (thn (he pins s σ H _ I h) fun v s1 ⟨x, H1, I1, r1, q1⟩ => ⟨x, σ, H1, I1, r1, q1⟩)
noncomputable def ZeO : TS := fun D _ H => D.rt .non H
noncomputable def Zfs (c : TT) (t u : TS) : TS := fun D σ H => c σ H fun b H1 => if b = true then t D σ H1 else u D σ H1
theorem Zcu {c : Expr} {a b : List Stmt} {tc : TT} (hc : PT X c tc) (ha : PSs X a t) (hb : PSs X b u) : PS X (.If c a b pos) (Zfs tc t u) := by
 intro pins s σ H D I h
 refine wpAny_If (thn (hc pins s σ H _ I h) fun d s1 ⟨H1, I1, q1⟩ => ?_)
 cases d with
 | true => exact ha pins s1 σ H1 D I1 q1
 | false => exact hb pins s1 σ H1 D I1 q1
noncomputable def Zdl : TS := fun _ _ _ => False
end
noncomputable abbrev TG := V → St → Hp → (St → Hp → Prop) → Prop
noncomputable abbrev TGs := List V → St → Hp → (St → Hp → Prop) → Prop
noncomputable def PG (X : Cx) (target : Expr) (t : TG) : Prop :=
 ∀ (pins : List (Addr × Obj)) (s : Shared) (σ : St) (H : Hp) (v : V) (u : Value) (Q : St → Hp → Prop), Inv X pins σ H s → RelV v u → t v σ H Q →
  wpAny (model X.prog X.w) X.A (assign target X.env u) (fun _ s' => ∃ σ' H', Inv X pins σ' H' s' ∧ Q σ' H') X.xe s
noncomputable def PGs (X : Cx) (ts : List Expr) (t : TGs) : Prop :=
 ∀ (pins : List (Addr × Obj)) (s : Shared) (σ : St) (H : Hp) (vs : List V) (us : List Value) (Q : St → Hp → Prop), Inv X pins σ H s → Vals vs us → t vs σ H Q →
  wpAny (model X.prog X.w) X.A (assignInOrder ((assignEach ts X.env).map (·.2)) us) (fun _ s' => ∃ σ' H', Inv X pins σ' H' s' ∧ Q σ' H') X.xe s
noncomputable abbrev ZaJ := V → V → V → Hp → (Hp → Prop) → Prop
noncomputable def Zd1 (X : Cx) (t : ZaJ) : Prop :=
 ∀ (pins : List (Addr × Obj)) (s : Shared) (σ : St) (H : Hp) (o i v : V) (ov iv u : Value) (Q : Hp → Prop), Inv X pins σ H s → RelV o ov → RelV i iv → RelV v u → t o i v H Q →
  wpAny (model X.prog X.w) X.A (setItem ov iv u) (fun _ s' => ∃ H', Inv X pins σ H' s' ∧ Q H') X.xe s
noncomputable abbrev TIp := V → V → Hp → VK → Prop
noncomputable def PIp (X : Cx) (op : Operator) (t : TIp) : Prop :=
 ∀ (pins : List (Addr × Obj)) (s : Shared) (σ : St) (H : Hp) (x y : V) (v u : Value) (Q : VK), Inv X pins σ H s → RelV x v → RelV y u → t x y H Q →
  wpAny (model X.prog X.w) X.A (inplaceOp op v u) (EP X pins σ Q) X.xe s
section
variable {X : Cx} {pos : Pos}
noncomputable def Nz (i : Nat) : TG := fun v σ H Q => Q (σ.set i (some v)) H
theorem BY {i : Nat} {x : Str} (hN : X.N.Nodup) (hi : X.N[i]? = some x) (hx : Loc X.env.scope x) (hf : X.fn x = true ∨ X.env.scope.names.lookup x = some .local := by first | exact .inl rfl | exact .inr rfl | assumption) : PG X (.Name x pos) (Nz i) := by
 intro pins s σ H v u Q I r h
 exact wpAny_assign_Name (Gn I hN hi hx r (fun s' I' => ⟨_, H, I', h⟩) hf)
noncomputable def Ze3 : TGs := fun vs σ H Q => vs = [] ∧ Q σ H
noncomputable def Zbi (t : TG) (u : TGs) : TGs := fun vs σ H Q => ∃ v r, vs = v :: r ∧ t v σ H fun σ' H' => u r σ' H' Q
theorem O7 : PGs X [] Ze3 := by
 intro pins s σ H vs us Q I r h
 obtain ⟨e, h⟩ := h
 subst e
 cases r
 exact assignInOrder_nil ⟨σ, H, I, h⟩
theorem Fb {e : Expr} {es : List Expr} {t : TG} {u : TGs} (h1 : PG X e t) (h2 : PGs X es u)
  (hs : (assignEach (e :: es) X.env).map (·.2) = assign e X.env :: (assignEach es X.env).map (·.2) := by rfl) : PGs X (e :: es) (Zbi t u) := by
 intro pins s σ H vs us Q I r h
 obtain ⟨v, vr, e1, h⟩ := h
 subst e1
 cases r with
 | cons r rr =>
  rw [hs]
  refine assignInOrder_cons (thn (h1 pins s σ H _ _ _ I r h) fun _ s1 ⟨σ1, H1, I1, q1⟩ => ?_)
  exact h2 pins s1 σ1 H1 _ _ Q I1 rr q1
noncomputable def ZeL (K : PySem.W.Frag) (n : Nat) (t : TGs) : TG := fun v σ H Q => ∃ a xs, v = .ref a ∧ SqT K H a xs ∧ xs.length = n ∧ t xs σ H Q
theorem SD {es : List Expr} {k : Nat} {t : TGs} {n : Nat} (hc : X.calm = true) (h : PGs X es t)
  (hn : (assignEach es X.env).length = n := by rfl) (hst : (assignEach es X.env).findIdx? (·.1) = none := by rfl) : PG X (.Tuple es k pos) (ZeL X.K n t) := by
 intro pins s σ H v u Q I r hw
 obtain ⟨a, xs, e1, hq, hl, hw⟩ := hw
 subst e1
 cases r
 obtain ⟨its, rv, ht, hz⟩ := I.tuple hq
 refine assign_Tuple_tuple (I.ok.hd hc) ht (by simp [hn, ← hl, rv.length]) hst fun h' hx => ?_
 have I1 : Inv X pins σ H { s with heap := h' } := I.kept (t' := s.toks) fun b o e => hx b o (Nat.ne_of_lt (Heap.lt_size e)) e
 exact h pins _ σ H xs _ Q I1 (by simpa using rv) hw
noncomputable def Zeo (to ti : TE) (t : ZaJ) : TG := fun v σ H Q => to σ H fun o H1 => ti σ H1 fun i H2 => t o i v H2 fun H3 => Q σ H3
theorem PV {o i : Expr} {to ti : TE} {t : ZaJ} (ho : PE X o to) (hi : PE X i ti) (hs : Zd1 X t)
  (ha : ∀ v, assign (.Subscript o i pos) X.env v = (do
   let ov ← holding [v] (eval o X.env)
   let iv ← holding [v, ov] (eval i X.env)
   standAt pos
   holding [v, ov, iv] (setItem ov iv v)
   release [v, ov, iv] []) := by intro _; rfl) : PG X (.Subscript o i pos) (Zeo to ti t) := by
 intro pins s σ H v u Q I r h
 rw [ha]
 refine wpAny_bind (wpAny_holding (thn (ho pins s σ H _ I h) fun ov s1 ⟨x, H1, I1, r1, q1⟩ => ?_))
 refine wpAny_bind (wpAny_holding (thn (hi pins s1 σ H1 _ I1 q1) fun iv s2 ⟨y, H2, I2, r2, q2⟩ => ?_))
 refine wpAny_bind (wpAny_standAt (wpAny_bind (wpAny_holding (thn (hs pins s2 σ H2 x y v ov iv u _ I2 r1 r2 r q2) fun _ s3 ⟨H3, I3, q3⟩ => ?_))))
 exact wpAny_release ⟨σ, H3, I3, q3⟩
noncomputable def Za4 (te : TE) (g : TG) : TS := fun D σ H => te σ H fun x H1 => g x σ H1 D.nx
theorem SJ {tg e : Expr} {te : TE} {g : TG} (he : PE X e te) (hg : PG X tg g) (hs : swapsWithSole [tg] e pos.line X.env = pure false := by rfl) (hw : swappedStores [tg] e X.env = pure none := by rfl)
  (h1 : (assignEach [tg] X.env).map (·.2) = [assign tg X.env] := by rfl) : PS X (.Assign [tg] e pos) (Za4 te g) := by
 intro pins s σ H D I h
 refine wpAny_Assign_stores (thn (he pins s σ H _ I h) fun v s1 ⟨x, H1, I1, r1, q1⟩ => ?_) hs hw
 rw [h1]
 exact thn (hg pins s1 σ H1 x v _ I1 r1 q1) fun _ s2 q => q
theorem LZ {i : Nat} {x : Str} {e : Expr} {te : TE} {pos' : Pos} (hN : X.N.Nodup) (hi : X.N[i]? = some x) (hx : Loc X.env.scope x) (he : PE X e te) (hs : swapsWith e (some (.Name x pos')) pos.line X.env = pure false := by rfl) (hf : X.fn x = true ∨ X.env.scope.names.lookup x = some .local := by first | exact .inl rfl | exact .inr rfl | assumption) :
  PS X (.Assign [.Name x pos'] e pos) (Za4 te (Nz i)) := by
 intro pins s σ H D I h
 refine wpAny_Assign_Name (thn (he pins s σ H _ I h) fun v s1 ⟨y, H1, I1, r1, q1⟩ => ?_) hs
 exact Gn I1 hN hi hx r1 (fun s2 I2 => ⟨_, H1, I2, q1⟩) hf
noncomputable def ZfV (i j : Nat) (ta : TA) : TS := fun D σ H => ta σ H fun vs H1 => ∃ v w, vs = [v, w] ∧ D.nx ((σ.set i (some v)).set j (some w)) H1
noncomputable def Zgc (i : Nat) (te : TE) (ti : TIp) : TS := fun D σ H => ∃ x, σ[i]? = some (some x) ∧ te σ H fun y H1 => ti x y H1 fun z H2 => D.nx (σ.set i (some z)) H2
noncomputable def Zfy (to ti te : TE) (tget : V → V → Hp → VK → Prop) (tip : TIp) (tset : ZaJ) : TS := fun D σ H => to σ H fun o H1 => ti σ H1 fun i H2 => tget o i H2 fun x H3 => te σ H3 fun y H4 => tip x y H4 fun z H5 => tset o i z H5 fun H6 => D.nx σ H6
noncomputable def Zge (X : Cx) (t : V → V → Hp → VK → Prop) : Prop :=
 ∀ (pins : List (Addr × Obj)) (s : Shared) (σ : St) (H : Hp) (o i : V) (ov iv : Value) (Q : VK), Inv X pins σ H s → RelV o ov → RelV i iv → t o i H Q →
  wpAny (model X.prog X.w) X.A (getItem ov iv) (EP X pins σ Q) X.xe s
noncomputable def ipI (f : Int → Int → Int) : TIp := fun x y H Q => ∃ i j, x = .int i ∧ y = .int j ∧ Q (.int (f i j)) H
end
section
variable {X : Cx} {pos : Pos}
noncomputable def Zd4 (c : TT) (tb : TS) : TS := fun D σ H => ∃ W : Nat → St → Hp → Prop, (∃ m, W m σ H) ∧ ∀ m σ H, W m σ H →
 c σ H fun b H1 => if b = true then ∃ N : St → Hp → Prop, (∀ σ' H', N σ' H' → ∃ m', m' < m ∧ W m' σ' H') ∧ tb { D with nx := N, ct := N, bk := D.nx } σ H1 else D.nx σ H1
end
structure It where
 go : Nat → Hp → Prop
 yld : Nat → Hp → V → Hp → Prop
 stop : Nat → Hp → Prop
noncomputable def WL (X : Cx) (pins : List (Addr × Obj)) (H : Hp) (b : Addr) : Prop :=
 H b = none ∧ b ≠ X.env.locals ∧ b ∉ X.fs ∧ (b ∈ X.ex ∨ X.s₀.heap.objs.size ≤ b) ∧ (∀ x c, X.env.cells.lookup x = some c → c ≠ b) ∧ ∀ p ∈ X.pn ++ pins, p.1 ≠ b
theorem Inv.OY {X : Cx} {pins : List (Addr × Obj)} {σ : St} {H H' : Hp} {s : Shared} {b : Addr} (I : Inv X pins σ H s) (hb : s.heap.objs.size ≤ b) (hn : H' b = none) : WL X pins H' b := by
 refine ⟨hn, Nat.ne_of_gt (Nat.lt_of_lt_of_le I.lt hb), I.ZeN hb, .inr (Nat.le_trans I.sz hb), fun x c e z => ?_, fun p hp z => ?_⟩
 ·obtain ⟨v, q⟩ := I.cell x c e
  exact absurd (Nat.lt_of_lt_of_le q.lt (by rw [z]; exact hb)) (Nat.lt_irrefl _)
 ·exact absurd (Nat.lt_of_lt_of_le (Heap.lt_size (I.pin p hp).1) (by rw [z]; exact hb)) (Nat.lt_irrefl _)
structure Turn (P : Program) (w : World) (K : PySem.W.Frag) (tg : Expr) (J : It) (fp : List Addr) (it : Addr) (tn : Nat → Heap → Prop) : Prop where
 mem : it ∈ fp
 obj : ∀ i h, tn i h → ∀ b ∈ fp, ∃ o, h.get? b = some o ∧ ∀ v, o.data ≠ .cell v
 keep : ∀ i h h', tn i h → (∀ b ∈ fp, ∀ o, h.get? b = some o → h'.get? b = some o) → tn i h'
 item : ∀ (X : Cx), X.prog = P → X.w = w → X.K = K → X.calm = true → ∀ (i : Nat) (pins : List (Addr × Obj)) (s : Shared) (σ : St) (H : Hp) (E : Value → Shared → Prop), Inv X pins σ H s → (∀ b ∈ fp, WL X pins H b) → tn i s.heap → J.go i H →
  wpAny (model P w) X.A (pyNext (.ref it)) (fun r s1 => ∃ u, r = some u ∧
   wpAny (model P w) X.A (letOwnedTupleGo tg (.ref it) u) (fun _ s2 => ∃ x H', Inv X pins σ H' s2 ∧ RelV x u ∧ J.yld i H x H' ∧ tn (i + 1) s2.heap ∧ ∀ b ∈ fp, H' b = none) E s1) E s
 done : ∀ (X : Cx), X.prog = P → X.w = w → X.K = K → X.calm = true → ∀ (i : Nat) (pins : List (Addr × Obj)) (s : Shared) (σ : St) (H : Hp) (E : Value → Shared → Prop), Inv X pins σ H s → (∀ b ∈ fp, WL X pins H b) → tn i s.heap → J.stop i H →
  wpAny (model P w) X.A (pyNext (.ref it)) (fun r s1 => r = none ∧ Inv X pins σ H s1) E s
 self : ∀ (A : Around) (i : Nat) (s : Shared) (Q : Value → Shared → Prop) (E : Value → Shared → Prop), tn i s.heap → Q (.ref it) s → wpAny (model P w) A (pyIter (.ref it)) Q E s
noncomputable abbrev TI := St → Hp → (It → Hp → Prop) → Prop
noncomputable def PIE (X : Cx) (pins : List (Addr × Obj)) (σ : St) (tg : Expr) (R : It → Hp → Prop) (itv : Value) (s2 : Shared) : Prop :=
 ∃ (it : Addr) (fp : List Addr) (tn : Nat → Heap → Prop) (J : It) (H' : Hp), itv = .ref it ∧ Inv X pins σ H' s2 ∧ Turn X.prog X.w X.K tg J fp it tn ∧ tn 0 s2.heap ∧ (∀ b ∈ fp, WL X pins H' b) ∧ R J H'
noncomputable def PI (X : Cx) (tg iter : Expr) (wi : TI) : Prop :=
 ∀ (pins : List (Addr × Obj)) (s : Shared) (σ : St) (H : Hp) (R : It → Hp → Prop), Inv X pins σ H s → wi σ H R →
  wpAny (model X.prog X.w) X.A (eval iter X.env) (fun v s1 => wpAny (model X.prog X.w) X.A (pyIter v) (PIE X pins σ tg R) X.xe s1) X.xe s
theorem Ni {M : Model} {A : Around} {E : Value → Shared → Prop} {s : Shared} {tg : Expr} {it : Addr} {u : Value} {o : Obj} {n : String} {vs : Array Value} {Q : Unit → Shared → Prop} (ho : s.heap.get? it = some o) (hc : o.cls = .type n) (hd : o.data = .fields vs)
    (hn : ["enumerate", "zip", "dict_itemiterator", "dict_reverseitemiterator", "odict_iterator", "itertools.zip_longest", "itertools.pairwise"].contains n = false) (hQ : Q () s) : wpAny M A (letOwnedTupleGo tg (.ref it) u) Q E s := by
  unfold letOwnedTupleGo
  cases tg <;> first
    | exact wpAny_pure hQ
    | (cases u <;> first
        | exact wpAny_pure hQ
        | (refine wpAny_bind (wpAny_load ho ?_)
           rw [hc, hd]
           show wpAny M A (if (["enumerate", "zip", "dict_itemiterator", "dict_reverseitemiterator", "odict_iterator", "itertools.zip_longest", "itertools.pairwise"].contains n && vs[0]? == some (rawInt _)) = true then _ else _) Q E s
           rw [if_neg (by intro h; rw [hn, Bool.false_and] at h; cases h)]
           exact wpAny_pure hQ))
noncomputable def Itl (K : PySem.W.Frag) (a : Addr) : It :=
 ⟨fun i H => ∃ xs x, SqL K H a xs ∧ xs[i]? = some x, fun i H x H' => H' = H ∧ ∀ xs, SqL K H a xs → xs[i]? = some x, fun i H => ∃ xs, SqL K H a xs ∧ xs.length ≤ i⟩
noncomputable def Itt (K : PySem.W.Frag) (a : Addr) : It :=
 ⟨fun i H => ∃ xs x, SqT K H a xs ∧ xs[i]? = some x, fun i H x H' => H' = H ∧ ∀ xs, SqT K H a xs → xs[i]? = some x, fun i H => ∃ xs, SqT K H a xs ∧ xs.length ≤ i⟩
noncomputable def Itr (lo : Int) (n : Nat) : It := ⟨fun i _ => i < n, fun i H x H' => H' = H ∧ x = .int (lo + i), fun i _ => n ≤ i⟩
theorem KI {P : Program} {w : World} {K : PySem.W.Frag} {tg : Expr} (a it : Addr) : Turn P w K tg (Itl K a) [it] it (fun i h => h.IsListIter it a i) where
 mem := by simp
 obj := fun i h st b hb => by
  have e : b = it := by simpa using hb
  subst e
  obtain ⟨o, e, c, d⟩ := st
  exact ⟨o, e, fun v z => by rw [d] at z; cases z⟩
 keep := fun i h h' st k => st.at fun o e => k it (by simp) o e
 item := by
  intro X hP hw hK hc i pins s σ H E I hf st hg
  subst hP hw hK
  obtain ⟨xs, x, hq, hx⟩ := hg
  obtain ⟨its, rv, p, hz⟩ := I.list hq
  obtain ⟨u, hu, ru⟩ := rv.get hx
  obtain ⟨f0, f1, f2, f3, f4, f5⟩ := hf it (by simp)
  refine wpAny_pyNext_list_item st p.isList (x := u) (by simpa using hu) fun h' st' sb => ?_
  have I1 : Inv X pins σ H { s with heap := h' } := I.turned (t' := s.toks) (fun b o hb e => (sb.2 b hb).trans e) f0 f1 f3 f4 f5
  obtain ⟨o, e, c, d⟩ := id st'
  exact ⟨u, rfl, Ni (s := { s with heap := h' }) e c d (by decide) ⟨x, H, I1, ru, ⟨rfl, fun ys hy => by rw [I.FR hy hq]; exact hx⟩, st', fun b hb => (hf b hb).1⟩⟩
 done := by
  intro X hP hw hK hc i pins s σ H E I hf st hg
  subst hP hw hK
  obtain ⟨xs, hq, hx⟩ := hg
  obtain ⟨its, rv, p, hz⟩ := I.list hq
  obtain ⟨f0, f1, f2, f3, f4, f5⟩ := hf it (by simp)
  have hl := rv.length
  exact wpAny_pyNext_list_end (I.ok.hd hc) st p.isList (by simp; omega) fun h' eb => ⟨rfl, I.turned (t' := s.toks) (fun b o hb e => eb b o hb e) f0 f1 f3 f4 f5⟩
 self := fun _ _ _ _ _ st h => wpAny_pyIter_listiter st h
theorem Xk {P : Program} {w : World} {K : PySem.W.Frag} {tg : Expr} (a it : Addr) : Turn P w K tg (Itt K a) [it] it (fun i h => h.IsTupleIter it a i) where
 mem := by simp
 obj := fun i h st b hb => by
  have e : b = it := by simpa using hb
  subst e
  obtain ⟨o, e, c, d⟩ := st
  exact ⟨o, e, fun v z => by rw [d] at z; cases z⟩
 keep := fun i h h' st k => st.at fun o e => k it (by simp) o e
 item := by
  intro X hP hw hK hc i pins s σ H E I hf st hg
  subst hP hw hK
  obtain ⟨xs, x, hq, hx⟩ := hg
  obtain ⟨its, rv, p, hz⟩ := I.tuple hq
  obtain ⟨u, hu, ru⟩ := rv.get hx
  obtain ⟨f0, f1, f2, f3, f4, f5⟩ := hf it (by simp)
  refine wpAny_pyNext_tuple_item st (show s.heap.IsTuple a its.toArray from p) (x := u) (by simpa using hu) fun h' st' sb => ?_
  have I1 : Inv X pins σ H { s with heap := h' } := I.turned (t' := s.toks) (fun b o hb e => (sb.2 b hb).trans e) f0 f1 f3 f4 f5
  obtain ⟨o, e, c, d⟩ := id st'
  exact ⟨u, rfl, Ni (s := { s with heap := h' }) e c d (by decide) ⟨x, H, I1, ru, ⟨rfl, fun ys hy => by rw [I.BQ hy hq]; exact hx⟩, st', fun b hb => (hf b hb).1⟩⟩
 done := by
  intro X hP hw hK hc i pins s σ H E I hf st hg
  subst hP hw hK
  obtain ⟨xs, hq, hx⟩ := hg
  obtain ⟨its, rv, p, hz⟩ := I.tuple hq
  obtain ⟨f0, f1, f2, f3, f4, f5⟩ := hf it (by simp)
  have hl := rv.length
  exact wpAny_pyNext_tuple_end (I.ok.hd hc) st (show s.heap.IsTuple a its.toArray from p) (by simp; omega) fun h' eb => ⟨rfl, I.turned (t' := s.toks) (fun b o hb e => eb b o hb e) f0 f1 f3 f4 f5⟩
 self := fun _ _ _ _ _ st h => wpAny_pyIter_tupleiter st h
theorem Bk {P : Program} {w : World} {K : PySem.W.Frag} {tg : Expr} (it : Addr) (lo : Int) (n : Nat) : Turn P w K tg (Itr lo n) [it] it (fun i h => IsRangeIter h it (lo + (i : Nat) * 1) ((n : Int) - (i : Nat)) 1) where
 mem := by simp
 obj := fun i h st b hb => by
  have e : b = it := by simpa using hb
  subst e
  exact ⟨_, st, fun v z => by
   have z' : Data.fields _ = Data.cell v := z
   cases z'⟩
 keep := fun i h h' st k => k it (by simp) _ st
 item := by
  intro X hP hw hK hc i pins s σ H E I hf st hg
  subst hP hw hK
  obtain ⟨f0, f1, f2, f3, f4, f5⟩ := hf it (by simp)
  have W := Walks.range (prog := X.prog) (w := X.w) (I.ok.hd hc) it lo 1 n
  refine W.item i s _ _ hg st fun v h' tk hv st' kk => ?_
  obtain ⟨t, rfl⟩ := hv
  have I1 : Inv X pins σ H { s with heap := h', toks := tk } := I.turned (fun b o hb e => kk b o (by simpa using hb) e) f0 f1 f3 f4 f5
  refine ⟨_, rfl, Ni (s := { s with heap := h', toks := tk }) (n := "range_iterator") st' rfl rfl (by decide) ⟨.int (lo + i), H, I1, ⟨t, ?_⟩, ⟨rfl, rfl⟩, st', fun b hb => (hf b hb).1⟩⟩
  rw [Int.mul_one]
 done := by
  intro X hP hw hK hc i pins s σ H E I hf st hg
  subst hP hw hK
  obtain ⟨f0, f1, f2, f3, f4, f5⟩ := hf it (by simp)
  exact wpAny_pyNext_range_end (I.ok.hd hc) st (by have : n ≤ i := hg; omega) fun h' eb => ⟨rfl, I.turned (t' := s.toks) (fun b o hb e => eb b o hb e) f0 f1 f3 f4 f5⟩
 self := fun _ _ _ _ _ st h => wpAny_pyIter_rangeiter st h
end L2
namespace L2
open PySem PySem.Spec PyProof.Rows
section
variable {X : Cx} {tg : Expr}
noncomputable def Zci (K : PySem.W.Frag) (tl : TE) : TI := fun σ H R => tl σ H fun x H1 => ∃ a, x = .ref a ∧ (∃ xs, SqL K H1 a xs) ∧ R (Itl K a) H1
noncomputable def Zej (K : PySem.W.Frag) (tl : TE) : TI := fun σ H R => tl σ H fun x H1 => ∃ a, x = .ref a ∧ (∃ xs, SqT K H1 a xs) ∧ R (Itt K a) H1
theorem MT {l : Expr} {tl : TE} (hl : PE X l tl) : PI X tg l (Zci X.K tl) := by
 intro pins s σ H R I h
 refine thn (hl pins s σ H _ I h) fun v s1 ⟨x, H1, I1, r1, q1⟩ => ?_
 obtain ⟨a, e, ⟨xs, hq⟩, q⟩ := q1
 subst e
 cases r1
 obtain ⟨its, rv, p, hz⟩ := I1.list hq
 refine wpAny_pyIter_list p.isList ?_
 refine ⟨s1.heap.objs.size, [s1.heap.objs.size], _, _, H1, rfl, I1.kept (t' := s1.toks) fun b o e => Heap.get?_push_of_some _ e, KI a _, ⟨_, Heap.get?_push_size _ rfl, rfl, rfl⟩, fun b hb => ?_, q⟩
 have e : b = s1.heap.objs.size := by simpa using hb
 subst e
 exact I1.OY (Nat.le_refl _) (I1.hok.fresh (Nat.le_refl _))
theorem Tp {l : Expr} {tl : TE} (hl : PE X l tl) : PI X tg l (Zej X.K tl) := by
 intro pins s σ H R I h
 refine thn (hl pins s σ H _ I h) fun v s1 ⟨x, H1, I1, r1, q1⟩ => ?_
 obtain ⟨a, e, ⟨xs, hq⟩, q⟩ := q1
 subst e
 cases r1
 obtain ⟨its, rv, p, hz⟩ := I1.tuple hq
 refine wpAny_pyIter_tuple (show s1.heap.IsTuple a its.toArray from p) ?_
 refine ⟨s1.heap.objs.size, [s1.heap.objs.size], _, _, H1, rfl, I1.kept (t' := s1.toks) fun b o e => Heap.get?_push_of_some _ e, Xk a _, ⟨_, Heap.get?_push_size _ rfl, rfl, rfl⟩, fun b hb => ?_, q⟩
 have e : b = s1.heap.objs.size := by simpa using hb
 subst e
 exact I1.OY (Nat.le_refl _) (I1.hok.fresh (Nat.le_refl _))
theorem GA {pins : List (Addr × Obj)} {σ : St} {H : Hp} {s : Shared} {R : It → Hp → Prop} {E : Value → Shared → Prop} {lo hi : Int} {t u v : Tok} {tk : Nat} (I : Inv X pins σ H s) (h1 : -(2 ^ 62) ≤ lo) (h2 : lo < 2 ^ 62) (h3 : -(2 ^ 62) ≤ hi) (h4 : hi < 2 ^ 62)
  (q : R (Itr lo (hi - lo).toNat) H) : wpAny (model X.prog X.w) X.A (pyIter (.ref s.heap.objs.size)) (PIE X pins σ tg R) E { s with heap := s.heap.push { cls := .type "range", data := .fields #[.int lo t, .int hi u, .int 1 v] }, toks := tk } := by
 refine wpAny_pyIter_range (IsRange.new ..) (small_one h1 h2 h3 h4) ?_
 have I1 : Inv X pins σ H { s with heap := s.heap.push { cls := .type "range", data := .fields #[.int lo t, .int hi u, .int 1 v] }, toks := tk } := I.kept fun b o e => Heap.get?_push_of_some _ e
 refine ⟨(s.heap.push { cls := .type "range", data := .fields #[.int lo t, .int hi u, .int 1 v] }).objs.size, [(s.heap.push { cls := .type "range", data := .fields #[.int lo t, .int hi u, .int 1 v] }).objs.size], _, _, H, rfl,
  I1.kept (t' := tk) fun b o e => Heap.get?_push_of_some _ e, Bk _ lo (hi - lo).toNat, ?_, fun b hb => ?_, q⟩
 ·have e1 : lo + ((0 : Nat) : Int) * 1 = lo := by simp
  have e2 : (((hi - lo).toNat : Nat) : Int) - ((0 : Nat) : Int) = Builtin.Range.rangeSize lo hi 1 := by rw [rangeSize_one]; split <;> omega
  show IsRangeIter _ _ (lo + ((0 : Nat) : Int) * 1) ((((hi - lo).toNat : Nat) : Int) - ((0 : Nat) : Int)) 1
  rw [e1, e2]
  exact Heap.get?_push_size _ rfl
 ·have e : b = (s.heap.push { cls := .type "range", data := .fields #[.int lo t, .int hi u, .int 1 v] }).objs.size := by simpa using hb
  subst e
  exact I1.OY (Nat.le_refl _) (I1.hok.fresh (Nat.le_refl _))
noncomputable def Zb8 (ta : TA) : TI := fun σ H R => ta σ H fun vs H1 => ∃ j : Int, vs = [.int j] ∧ -(2 ^ 62) ≤ j ∧ j < 2 ^ 62 ∧ R (Itr 0 j.toNat) H1
noncomputable def Zcp (ta : TA) : TI := fun σ H R => ta σ H fun vs H1 => ∃ i j : Int, vs = [.int i, .int j] ∧ (-(2 ^ 62) ≤ i ∧ i < 2 ^ 62 ∧ -(2 ^ 62) ≤ j ∧ j < 2 ^ 62) ∧ R (Itr i (j - i).toNat) H1
theorem Wg {a : Expr} {ta : TA} {p pos : Pos} (hg : Gl X "range") (hm : X.mg "range" = none) (ha : PA X [a] ta) (hs : starEach [a] X.env = [(false, eval a X.env)] := by rfl) : PI X tg (.Call (.Name "range" p) [a] [] pos) (Zb8 ta) := by
 intro pins s σ H R I h
 refine Call_ (WE I hg hm boot_range (PyProof.Rows.callWith_type1 (thn (ha pos pins s σ H _ I h) fun us s1 ⟨vs, H1, I1, r1, q1⟩ => ?_) hs rfl))
 obtain ⟨j, e, q1, q2, q⟩ := q1
 subst e
 cases r1 with
 | cons r rr =>
  cases rr
  obtain ⟨t, rfl⟩ := r
  exact call_range_1 (GA I1 (by omega) (by omega) q1 q2 (by simpa using q))
theorem BR {a b : Expr} {ta : TA} {p pos : Pos} (hg : Gl X "range") (hm : X.mg "range" = none) (ha : PA X [a, b] ta) (hs : starEach [a, b] X.env = [(false, eval a X.env), (false, eval b X.env)] := by rfl) (hs2 : starEach [b] X.env = [(false, eval b X.env)] := by rfl) :
  PI X tg (.Call (.Name "range" p) [a, b] [] pos) (Zcp ta) := by
 intro pins s σ H R I h
 refine Call_ (WE I hg hm boot_range (PyProof.Rows.callWith_type1 (thn (ha pos pins s σ H _ I h) fun us s1 ⟨vs, H1, I1, r1, q1⟩ => ?_) (by rw [hs, hs2]) (by rw [hs2]; rfl)))
 obtain ⟨i, j, e, ⟨q1, q2, q3, q4⟩, q⟩ := q1
 subst e
 cases r1 with
 | cons r rr =>
  cases rr with
  | cons r' rr =>
   cases rr
   obtain ⟨t, rfl⟩ := r
   obtain ⟨t', rfl⟩ := r'
   exact call_range_2 (GA I1 q1 q2 q3 q4 q)
noncomputable def ZeD (wi : TI) (g : TG) (tb : TS) : TS := fun D σ H => wi σ H fun J H1 => ∃ W : Nat → Nat → St → Hp → Prop, (∃ m, W 0 m σ H1) ∧ ∀ i m σ H, W i m σ H →
 (J.stop i H ∧ D.nx σ H) ∨ (J.go i H ∧ ∃ N : St → Hp → Prop, (∀ σ' H', N σ' H' → ∃ m', m' < m ∧ W (i + 1) m' σ' H') ∧ ∀ x H', J.yld i H x H' → g x σ H' fun σ2 H2 => tb { D with nx := N, ct := N, bk := D.nx } σ2 H2)
noncomputable def Xl (fp : List Addr) (h : Heap) : List (Addr × Obj) := fp.filterMap fun b => (h.get? b).map fun o => (b, o)
theorem QG {fp : List Addr} {h : Heap} {b : Addr} {o : Obj} (hb : b ∈ fp) (e : h.get? b = some o) : (b, o) ∈ Xl fp h := List.mem_filterMap.mpr ⟨b, hb, by rw [e]; rfl⟩
theorem DQ {fp : List Addr} {h : Heap} {p : Addr × Obj} (hp : p ∈ Xl fp h) : p.1 ∈ fp ∧ h.get? p.1 = some p.2 := by
 obtain ⟨b, hb, e⟩ := List.mem_filterMap.mp hp
 cases q : h.get? b with
 | none => rw [q] at e; cases e
 | some o =>
  rw [q] at e
  have e' : (b, o) = p := Option.some.inj e
  subst e'
  exact ⟨hb, q⟩
theorem Inv.pinned {pins : List (Addr × Obj)} {σ : St} {H : Hp} {s : Shared} {fp : List Addr} (I : Inv X pins σ H s) (hf : ∀ b ∈ fp, WL X pins H b) (ho : ∀ b ∈ fp, ∃ o, s.heap.get? b = some o ∧ ∀ v, o.data ≠ .cell v) : Inv X (pins ++ Xl fp s.heap) σ H s :=
 I.Ve fun p hp => (List.mem_append.mp hp).elim (fun z => I.pin p (List.mem_append_right _ z)) fun z => by
  obtain ⟨hb, e⟩ := DQ z
  obtain ⟨f0, f1, f2, _⟩ := hf p.1 hb
  obtain ⟨o, e', d⟩ := ho p.1 hb
  rw [e] at e'; cases e'
  exact ⟨e, f0, f1, f2, d⟩
theorem Inv.Ke {pins pl : List (Addr × Obj)} {σ : St} {H : Hp} {s : Shared} (I : Inv X (pins ++ pl) σ H s) : Inv X pins σ H s := I.Ve fun p hp => I.pin p (List.mem_append_right _ (List.mem_append_left _ hp))
theorem LO {iter : Expr} {body : List Stmt} {wi : TI} {g : TG} {tb : TS} {pos : Pos} (hp : PassesOwn (model X.prog X.w) X.A X.env X.xe) (hc : X.calm = true) (hi : PI X tg iter wi) (hg : PG X tg g) (hb : PSs X body tb)
  (hs : ∀ x, foldedSetIterable iter X.env x = pure x := by intro _; rfl) : PS X (.For tg iter body [] pos) (ZeD wi g tb) := by
 intro pins s σ H D I h
 refine wpAny_For (thn (hi pins s σ H _ I h) fun v s1 h1 => thn h1 fun itv s2 h2 => ?_) hs
 obtain ⟨it, fp, tn, J, H2, e, I2, T, st2, f2, W, ⟨m0, w0⟩, turn⟩ := h2
 subst e
 have stat : ∀ {H' : Hp}, (∀ b ∈ fp, H' b = none) → ∀ b ∈ fp, WL X pins H' b := fun hn b hb => ⟨hn b hb, (f2 b hb).2⟩
 refine codeAny_forLoop_any (fun n s' => ∃ i σ' H', Inv X pins σ' H' s' ∧ tn i s'.heap ∧ (∀ b ∈ fp, H' b = none) ∧ W i n σ' H') ?_ m0 ⟨0, σ, H2, I2, st2, fun b hb => (f2 b hb).1, w0⟩
 rintro n s3 ⟨i, σ3, H3, I3, st3, fr3, w3⟩
 rcases turn i n σ3 H3 w3 with ⟨stop, qn⟩ | ⟨go, N, hN, step⟩
 ·refine wpAny_passesOwn hp (thn (T.done X rfl rfl rfl hc i pins s3 σ3 H3 X.xe I3 (stat fr3) st3 stop) fun r s4 ⟨hr, I4⟩ => ?_)
  subst hr
  exact wpAny_execs_nil ⟨σ3, H3, I4, qn⟩
 ·refine wpAny_passesOwn hp (thn (T.item X rfl rfl rfl hc i pins s3 σ3 H3 X.xe I3 (stat fr3) st3 go) fun r s4 ⟨u, hr, h4⟩ => ?_)
  subst hr
  refine wpAny_passesOwn hp (thn h4 fun _ s5 ⟨x, H5, I5, r5, y5, st5, fr5⟩ => ?_)
  have I5' := I5.pinned (stat fr5) (T.obj _ _ st5)
  refine wpAny_passesOwn hp (thn (hg _ s5 σ3 H5 x u _ I5' r5 (step x H5 y5)) fun _ s6 ⟨σ6, H6, I6, q6⟩ => ?_)
  refine wpAny_passesOwn hp (thn (hb _ s6 σ6 H6 _ I6 q6) fun f s7 q7 => ?_)
  have again : ∀ {σ7 : St} {H7 : Hp}, Inv X (pins ++ Xl fp s5.heap) σ7 H7 s7 → N σ7 H7 → ∃ m, m < n ∧ ∃ i σ' H', Inv X pins σ' H' s7 ∧ tn i s7.heap ∧ (∀ b ∈ fp, H' b = none) ∧ W i m σ' H' := fun {σ7 H7} I7 n7 => by
   obtain ⟨m', hm, w7⟩ := hN σ7 H7 n7
   refine ⟨m', hm, i + 1, σ7, H7, I7.Ke, T.keep _ _ _ st5 fun b hb o e => (I7.pin (b, o) (List.mem_append_right _ (List.mem_append_right _ (QG hb e)))).1, fun b hb => ?_, w7⟩
   obtain ⟨o, e, d⟩ := T.obj _ _ st5 b hb
   exact (I7.pin (b, o) (List.mem_append_right _ (List.mem_append_right _ (QG hb e)))).2.1
  cases f with
  | next => obtain ⟨σ7, H7, I7, n7⟩ := q7; exact again I7 n7
  | cont => obtain ⟨σ7, H7, I7, n7⟩ := q7; exact again I7 n7
  | brk => obtain ⟨σ7, H7, I7, q7⟩ := q7; exact ⟨σ7, H7, I7.Ke, q7⟩
  | ret v => obtain ⟨x7, σ7, H7, I7, r7, q7⟩ := q7; exact ⟨x7, σ7, H7, I7.Ke, r7, q7⟩
end
theorem Hj {K : PySem.W.Frag} {a : Addr} {xs : List V} {g : TG} {tb : TS} {D : Ends} {σ : St} {H : Hp} (Pv : Nat → St → Hp → Prop) (h0 : Pv 0 σ H) (hl : ∀ i σ H, i ≤ xs.length → Pv i σ H → SqL K H a xs)
  (hs : ∀ i x σ H, xs[i]? = some x → Pv i σ H → g x σ H fun σ2 H2 => tb { D with nx := Pv (i + 1), ct := Pv (i + 1), bk := D.nx } σ2 H2) (hd : ∀ σ H, Pv xs.length σ H → D.nx σ H) :
  ∃ W : Nat → Nat → St → Hp → Prop, (∃ m, W 0 m σ H) ∧ ∀ i m σ H, W i m σ H →
   ((Itl K a).stop i H ∧ D.nx σ H) ∨ ((Itl K a).go i H ∧ ∃ N : St → Hp → Prop, (∀ σ' H', N σ' H' → ∃ m', m' < m ∧ W (i + 1) m' σ' H') ∧ ∀ x H', (Itl K a).yld i H x H' → g x σ H' fun σ2 H2 => tb { D with nx := N, ct := N, bk := D.nx } σ2 H2) := by
 refine ⟨fun i m σ H => m = xs.length - i ∧ i ≤ xs.length ∧ Pv i σ H, ⟨xs.length, by simp, Nat.zero_le _, h0⟩, ?_⟩
 rintro i m σ H ⟨rfl, hi, p⟩
 have q := hl i σ H hi p
 by_cases hlt : i < xs.length
 ·refine .inr ⟨⟨xs, xs[i], q, by simp [hlt]⟩, Pv (i + 1), fun σ' H' p' => ⟨xs.length - (i + 1), by omega, rfl, hlt, p'⟩, fun x H' y => ?_⟩
  obtain ⟨e, y⟩ := y
  subst e
  exact hs i x σ _ (y xs q) p
 ·have e : i = xs.length := by omega
  subst e
  exact .inl ⟨⟨xs, q, Nat.le_refl _⟩, hd σ H p⟩
theorem BO {lo : Int} {n : Nat} {g : TG} {tb : TS} {D : Ends} {σ : St} {H : Hp} (Pv : Nat → St → Hp → Prop) (h0 : Pv 0 σ H)
  (hs : ∀ i σ H, i < n → Pv i σ H → g (.int (lo + i)) σ H fun σ2 H2 => tb { D with nx := Pv (i + 1), ct := Pv (i + 1), bk := D.nx } σ2 H2) (hd : ∀ σ H, Pv n σ H → D.nx σ H) :
  ∃ W : Nat → Nat → St → Hp → Prop, (∃ m, W 0 m σ H) ∧ ∀ i m σ H, W i m σ H →
   ((Itr lo n).stop i H ∧ D.nx σ H) ∨ ((Itr lo n).go i H ∧ ∃ N : St → Hp → Prop, (∀ σ' H', N σ' H' → ∃ m', m' < m ∧ W (i + 1) m' σ' H') ∧ ∀ x H', (Itr lo n).yld i H x H' → g x σ H' fun σ2 H2 => tb { D with nx := N, ct := N, bk := D.nx } σ2 H2) := by
 refine ⟨fun i m σ H => m = n - i ∧ i ≤ n ∧ Pv i σ H, ⟨n, by simp, Nat.zero_le _, h0⟩, ?_⟩
 rintro i m σ H ⟨rfl, hi, p⟩
 by_cases hlt : i < n
 ·refine .inr ⟨hlt, Pv (i + 1), fun σ' H' p' => ⟨n - (i + 1), by omega, rfl, hlt, p'⟩, fun x H' y => ?_⟩
  obtain ⟨e, y⟩ := y
  subst e y
  exact hs i σ _ hlt p
 ·have e : i = n := by omega
  subst e
  exact .inl ⟨Nat.le_refl _, hd σ H p⟩
end L2
namespace L2
open PySem PySem.Spec PyProof.Rows
noncomputable abbrev R2 := V → V → Hp → VK → Prop
noncomputable def OpR (X : Cx) (f : Value → Value → Sem Value) (r : R2) : Prop :=
 ∀ (pins : List (Addr × Obj)) (s : Shared) (σ : St) (H : Hp) (x y : V) (v u : Value) (Q : VK), Inv X pins σ H s → RelV x v → RelV y u → r x y H Q →
  wpAny (model X.prog X.w) X.A (f v u) (EP X pins σ Q) X.xe s
noncomputable def UnR (X : Cx) (f : Value → Sem Value) (r : V → Hp → VK → Prop) : Prop :=
 ∀ (pins : List (Addr × Obj)) (s : Shared) (σ : St) (H : Hp) (x : V) (v : Value) (Q : VK), Inv X pins σ H s → RelV x v → r x H Q →
  wpAny (model X.prog X.w) X.A (f v) (EP X pins σ Q) X.xe s
noncomputable def QO (X : Cx) (f : Value) (r : List V → Hp → VK → Prop) : Prop :=
 ∀ (pins : List (Addr × Obj)) (s : Shared) (σ : St) (H : Hp) (xs : List V) (us : List Value) (Q : VK), Inv X pins σ H s → Vals xs us → r xs H Q →
  wpAny (model X.prog X.w) X.A (call f us) (EP X pins σ Q) X.xe s
noncomputable def Zf9 (X : Cx) (r : V → Hp → (Bool → Hp → Prop) → Prop) : Prop :=
 ∀ (pins : List (Addr × Obj)) (s : Shared) (σ : St) (H : Hp) (x : V) (v : Value) (Q : Bool → Hp → Prop), Inv X pins σ H s → RelV x v → r x H Q →
  wpAny (model X.prog X.w) X.A (truthy v) (TP X pins σ Q) X.xe s
noncomputable def tOp (r : R2) (ta tb : TE) : TE := fun σ H Q => ta σ H fun x H1 => tb σ H1 fun y H2 => r x y H2 Q
noncomputable def tUn (r : V → Hp → VK → Prop) (ta : TE) : TE := fun σ H Q => ta σ H fun x H1 => r x H1 Q
noncomputable def rI (C : Int → Int → Prop) (g : Int → Int → V) : R2 := fun x y H Q => ∃ i j, x = .int i ∧ y = .int j ∧ C i j ∧ Q (g i j) H
noncomputable def rI0 (g : Int → Int → V) : R2 := fun x y H Q => ∃ i j, x = .int i ∧ y = .int j ∧ Q (g i j) H
noncomputable def rU (g : Int → V) : V → Hp → VK → Prop := fun x H Q => ∃ i, x = .int i ∧ Q (g i) H
section
variable {X : Cx} {a b c : Expr} {ta tb tc : TE} {pos : Pos}
theorem ZcF (ha : PE X a ta) (hb : PE X b tb) {pins : List (Addr × Obj)} {s : Shared} {σ : St} {H : Hp} {R : V → V → Hp → Prop} (I : Inv X pins σ H s)
  (h : ta σ H fun x H1 => tb σ H1 fun y H2 => R x y H2) {Q : Value → Shared → Prop} {f : Value → Value → Sem Value}
  (hf : ∀ v u s2 x y H2, Inv X pins σ H2 s2 → RelV x v → RelV y u → R x y H2 → wpAny (model X.prog X.w) X.A (f v u) Q X.xe s2) :
  wpAny (model X.prog X.w) X.A (eval a X.env) (fun v s₁ => wpAny (model X.prog X.w) X.A (eval b X.env) (fun u s₂ => wpAny (model X.prog X.w) X.A (f v u) Q X.xe s₂) X.xe s₁) X.xe s := by
 refine thn (ha pins s σ H _ I h) fun v s1 ⟨x, H1, I1, r1, q1⟩ => ?_
 refine thn (hb pins s1 σ H1 _ I1 q1) fun u s2 ⟨y, H2, I2, r2, q2⟩ => ?_
 exact hf v u s2 x y H2 I2 r1 r2 q2
theorem Zcy {op : Operator} {r : R2} (ho : OpR X (binaryOp op) r) (ha : PE X a ta) (hb : PE X b tb) : PE X (.BinOp a op b pos) (tOp r ta tb) := by
 intro pins s σ H Q I h
 exact wpAny_BinOp (ZcF ha hb I h fun v u s2 x y H2 I2 rx ry q => ho pins s2 σ H2 x y v u Q I2 rx ry q)
theorem Za9 {op : UnaryOp} {r : V → Hp → VK → Prop} (ho : UnR X (unaryOp op) r) (ha : PE X a ta) : PE X (.UnaryOp op a pos) (tUn r ta) := by
 intro pins s σ H Q I h
 exact UnaryOp_ (thn (ha pins s σ H _ I h) fun v s1 ⟨x, H1, I1, r1, q1⟩ => ho pins s1 σ H1 x v Q I1 r1 q1)
theorem opI {f : Value → Value → Sem Value} {C : Int → Int → Prop} {g : Int → Int → Int}
  (rule : ∀ (i j : Int) (t u : Tok) (s : Shared) (Q : Value → Shared → Prop) (E : Value → Shared → Prop), C i j → Q (.int (g i j) s.toks) { s with toks := s.toks + 1 } → wpAny (model X.prog X.w) X.A (f (.int i t) (.int j u)) Q E s) :
  OpR X f (rI C fun i j => .int (g i j)) := by
 intro pins s σ H x y v u Q I rx ry h
 obtain ⟨i, j, rfl, rfl, hc, q⟩ := h
 obtain ⟨t, rfl⟩ := rx
 obtain ⟨t', rfl⟩ := ry
 exact rule i j t t' s _ _ hc ⟨.int (g i j), H, I.tok _, ⟨_, rfl⟩, q⟩
theorem Zdb {f : Value → Value → Sem Value} {g : Int → Int → Int}
  (rule : ∀ (i j : Int) (t u : Tok) (s : Shared) (Q : Value → Shared → Prop) (E : Value → Shared → Prop), Q (.int (g i j) s.toks) { s with toks := s.toks + 1 } → wpAny (model X.prog X.w) X.A (f (.int i t) (.int j u)) Q E s) :
  OpR X f (rI0 fun i j => .int (g i j)) := by
 intro pins s σ H x y v u Q I rx ry h
 obtain ⟨i, j, rfl, rfl, q⟩ := h
 obtain ⟨t, rfl⟩ := rx
 obtain ⟨t', rfl⟩ := ry
 exact rule i j t t' s _ _ ⟨.int (g i j), H, I.tok _, ⟨_, rfl⟩, q⟩
theorem Zaw {f : Value → Value → Sem Value} {g : Int → Int → Bool}
  (rule : ∀ (i j : Int) (t u : Tok) (s : Shared) (Q : Value → Shared → Prop) (E : Value → Shared → Prop), Q (.bool (g i j)) s → wpAny (model X.prog X.w) X.A (f (.int i t) (.int j u)) Q E s) :
  OpR X f (rI0 fun i j => .bl (g i j)) := by
 intro pins s σ H x y v u Q I rx ry h
 obtain ⟨i, j, rfl, rfl, q⟩ := h
 obtain ⟨t, rfl⟩ := rx
 obtain ⟨t', rfl⟩ := ry
 exact rule i j t t' s _ _ ⟨.bl (g i j), H, I, rfl, q⟩
noncomputable def Zdy (i j : Int) : Prop := 0 < j ∧ j < 1073741824
noncomputable def Ze7 (i j : Int) : Prop := j ≠ 0 ∧ j.natAbs < 1073741824
noncomputable def ZcL (i j : Int) : Prop := 0 ≤ j ∧ j ≤ 1000000 ∧ i.natAbs < 2 ^ 64
noncomputable def ZaC (i j : Int) : Prop := (-(2 ^ 64) < i ∧ i < 2 ^ 64) ∨ (-(2 ^ 64) < j ∧ j < 2 ^ 64)
theorem ZaC.ok {i j : Int} (h : ZaC i j) : IntMulOk i j := by
 rcases h with ⟨h1, h2⟩ | ⟨h1, h2⟩
 ·exact .of_left (intBits_le_64 h1 h2)
 ·exact .of_right (intBits_le_64 h1 h2)
theorem RV : OpR X (binaryOp .Add) (rI0 fun i j => .int (i + j)) := Zdb fun _ _ _ _ _ _ _ q => add_int q
theorem TH : OpR X (binaryOp .Sub) (rI0 fun i j => .int (i - j)) := Zdb fun _ _ _ _ _ _ _ q => sub_int q
theorem RS : OpR X (binaryOp .Mult) (rI ZaC fun i j => .int (i * j)) := opI fun _ _ _ _ _ _ _ hc q => mul_int q hc.ok
theorem NH : OpR X (binaryOp .FloorDiv) (rI Zdy fun i j => .int (i / j)) := opI fun i j _ _ _ _ _ hc q => by
 have h1 : (0 : Int) < j := hc.1
 have h2 : j < 1073741824 := hc.2
 exact floordiv_int (by omega) (by rw [Int.fdiv_eq_ediv_of_nonneg i (by omega)]; exact q) (.inl (PyProof.noPylong_small (by omega)))
theorem PD : OpR X (binaryOp .Mod) (rI (fun _ j => 0 < j) fun i j => .int (i % j)) := opI fun i j _ _ _ _ _ hc q => by
 have h1 : (0 : Int) < j := hc
 exact mod_int' (by omega) (by rw [Int.fmod_eq_emod_of_nonneg i (by omega)]; exact q)
theorem T9 : OpR X (binaryOp .Pow) (rI ZcL fun i j => .int (i ^ j.toNat)) := opI fun _ _ _ _ _ _ _ hc q => pow_int_small hc.1 hc.2.1 hc.2.2 q
theorem unI {f : Value → Sem Value} {g : Int → Int}
  (rule : ∀ (i : Int) (t : Tok) (s : Shared) (Q : Value → Shared → Prop) (E : Value → Shared → Prop), Q (.int (g i) s.toks) { s with toks := s.toks + 1 } → wpAny (model X.prog X.w) X.A (f (.int i t)) Q E s) :
  UnR X f (rU fun i => .int (g i)) := by
 intro pins s σ H x v Q I rx h
 obtain ⟨i, rfl, q⟩ := h
 obtain ⟨t, rfl⟩ := rx
 exact rule i t s _ _ ⟨.int (g i), H, I.tok _, ⟨_, rfl⟩, q⟩
theorem Sq : UnR X (unaryOp .USub) (rU fun i => .int (-i)) := unI fun _ _ _ _ _ q => neg_int q
end
noncomputable def Zdi : V → V → Bool
 | .non, .non => true | .non, .int _ => true | .int _, .non => true | .non, .bl _ => true | .bl _, .non => true | .non, .str _ => true | .str _, .non => true
 | .int _, .int _ => true | .bl _, .bl _ => true | .str _, .str _ => true | .byt _, .byt _ => true
 | .int _, .str _ => true | .str _, .int _ => true | .bl _, .str _ => true | .str _, .bl _ => true
 | _, _ => false
noncomputable def rEq : R2 := fun x y H Q => Zdi x y = true ∧ Q (.bl (decide (x = y))) H
noncomputable def rNe : R2 := fun x y H Q => Zdi x y = true ∧ Q (.bl (!decide (x = y))) H
theorem CH {i j : Int} : decide (V.int i = V.int j) = (i == j) := by
 rw [Bool.eq_iff_iff]
 simp
theorem Mr {i j : Bool} : decide (V.bl i = V.bl j) = (i == j) := by
 rw [Bool.eq_iff_iff]
 simp
theorem Yx {i j : Str} : decide (V.str i = V.str j) = (i == j) := by
 rw [Bool.eq_iff_iff]
 simp
theorem DR {i j : Array UInt8} : decide (V.byt i = V.byt j) = (i.toList == j.toList) := by
 rw [Bool.eq_iff_iff]
 cases i
 cases j
 simp
section
variable {X : Cx} {a b c : Expr} {ta tb tc : TE} {pos : Pos}
theorem ZM {pins : List (Addr × Obj)} {σ : St} {H : Hp} {s : Shared} {Q : VK} {k k' : Bool} (I : Inv X pins σ H s) (q : Q (.bl k) H) (e : k = k') : EP X pins σ Q (.bool k') s := by
 subst e
 exact ⟨.bl k, H, I, rfl, q⟩
theorem Zca : OpR X (compareOp .Eq) rEq := by
 intro pins s σ H x y v u Q I rx ry h
 obtain ⟨hs, q⟩ := h
 cases x with
 | non =>
  cases rx
  cases y with
  | non => cases ry; exact PySem.EqNone.eq_none_none (ZM I q (by simp))
  | bl j => cases ry; exact PySem.EqNone.eq_none_bool (ZM I q (by simp))
  | int j => obtain ⟨t', rfl⟩ := ry; exact PySem.EqNone.eq_none_int (ZM I q (by simp))
  | str j => obtain ⟨t', rfl⟩ := ry; exact PySem.EqNone.eq_none_str (ZM I q (by simp))
  | _ => exact absurd (show false = true from hs) Bool.false_ne_true
 | bl i =>
  cases rx
  cases y with
  | non => cases ry; exact PySem.EqNone.eq_bool_none (ZM I q (by simp))
  | bl j => cases ry; exact eq_bool (ZM I q Mr)
  | str j => obtain ⟨t', rfl⟩ := ry; exact PySem.EqMixed.eq_bool_str (ZM I q (by simp))
  | _ => exact absurd (show false = true from hs) Bool.false_ne_true
 | int i =>
  obtain ⟨t, rfl⟩ := rx
  cases y with
  | non => cases ry; exact PySem.EqNone.eq_int_none (ZM I q (by simp))
  | int j => obtain ⟨t', rfl⟩ := ry; exact eq_int (ZM I q CH)
  | str j => obtain ⟨t', rfl⟩ := ry; exact PySem.EqMixed.eq_int_str (ZM I q (by simp))
  | _ => exact absurd (show false = true from hs) Bool.false_ne_true
 | str i =>
  obtain ⟨t, rfl⟩ := rx
  cases y with
  | non => cases ry; exact PySem.EqNone.eq_str_none (ZM I q (by simp))
  | bl j => cases ry; exact PySem.EqMixed.eq_str_bool (ZM I q (by simp))
  | int j => obtain ⟨t', rfl⟩ := ry; exact PySem.EqMixed.eq_str_int (ZM I q (by simp))
  | str j => obtain ⟨t', rfl⟩ := ry; exact eq_str (ZM I q Yx)
  | _ => exact absurd (show false = true from hs) Bool.false_ne_true
 | byt i =>
  obtain ⟨t, rfl⟩ := rx
  cases y with
  | byt j => obtain ⟨t', rfl⟩ := ry; exact PySem.W.eq_bytes (ZM I q DR)
  | _ => exact absurd (show false = true from hs) Bool.false_ne_true
 | _ => cases y <;> exact absurd (show false = true from hs) Bool.false_ne_true
theorem SA : OpR X (compareOp .NotEq) rNe := by
 intro pins s σ H x y v u Q I rx ry h
 obtain ⟨hs, q⟩ := h
 cases x with
 | non =>
  cases rx
  cases y with
  | non => cases ry; exact PySem.EqNone.ne_none_none (ZM I q (by simp))
  | bl j => cases ry; exact PySem.EqNone.ne_none_bool (ZM I q (by simp))
  | int j => obtain ⟨t', rfl⟩ := ry; exact PySem.EqNone.ne_none_int (ZM I q (by simp))
  | str j => obtain ⟨t', rfl⟩ := ry; exact PySem.EqNone.ne_none_str (ZM I q (by simp))
  | _ => exact absurd (show false = true from hs) Bool.false_ne_true
 | bl i =>
  cases rx
  cases y with
  | non => cases ry; exact PySem.EqNone.ne_bool_none (ZM I q (by simp))
  | bl j => cases ry; exact ne_bool (ZM I q (congrArg not Mr))
  | str j => obtain ⟨t', rfl⟩ := ry; exact PySem.EqMixed.ne_bool_str (ZM I q (by simp))
  | _ => exact absurd (show false = true from hs) Bool.false_ne_true
 | int i =>
  obtain ⟨t, rfl⟩ := rx
  cases y with
  | non => cases ry; exact PySem.EqNone.ne_int_none (ZM I q (by simp))
  | int j => obtain ⟨t', rfl⟩ := ry; exact ne_int (ZM I q (congrArg not CH))
  | str j => obtain ⟨t', rfl⟩ := ry; exact PySem.EqMixed.ne_int_str (ZM I q (by simp))
  | _ => exact absurd (show false = true from hs) Bool.false_ne_true
 | str i =>
  obtain ⟨t, rfl⟩ := rx
  cases y with
  | non => cases ry; exact PySem.EqNone.ne_str_none (ZM I q (by simp))
  | bl j => cases ry; exact PySem.EqMixed.ne_str_bool (ZM I q (by simp))
  | int j => obtain ⟨t', rfl⟩ := ry; exact PySem.EqMixed.ne_str_int (ZM I q (by simp))
  | str j => obtain ⟨t', rfl⟩ := ry; exact ne_str (ZM I q (congrArg not Yx))
  | _ => exact absurd (show false = true from hs) Bool.false_ne_true
 | byt i =>
  obtain ⟨t, rfl⟩ := rx
  cases y with
  | byt j => obtain ⟨t', rfl⟩ := ry; exact PySem.W.ne_bytes (ZM I q (congrArg not DR))
  | _ => exact absurd (show false = true from hs) Bool.false_ne_true
 | _ => cases y <;> exact absurd (show false = true from hs) Bool.false_ne_true
theorem ZaZ : OpR X (compareOp .Lt) (rI0 fun i j => .bl (decide (i < j))) := Zaw fun _ _ _ _ _ _ _ q => lt_int q
theorem ZcC : OpR X (compareOp .LtE) (rI0 fun i j => .bl (decide (i ≤ j))) := Zaw fun _ _ _ _ _ _ _ q => le_int q
theorem Za0 : OpR X (compareOp .Gt) (rI0 fun i j => .bl (decide (j < i))) := Zaw fun _ _ _ _ _ _ _ q => gt_int q
theorem Zcl : OpR X (compareOp .GtE) (rI0 fun i j => .bl (decide (j ≤ i))) := Zaw fun _ _ _ _ _ _ _ q => ge_int q
noncomputable def isObj : HO → Bool
 | .lst _ => true
 | .ins _ _ _ => true
 | _ => false
theorem OpR.or {f : Value → Value → Sem Value} {r r' : R2} (h : OpR X f r) (h' : OpR X f r') : OpR X f (fun x y H Q => r x y H Q ∨ r' x y H Q) := by
 intro pins s σ H x y v u Q I rx ry q
 rcases q with q | q
 ·exact h pins s σ H x y v u Q I rx ry q
 ·exact h' pins s σ H x y v u Q I rx ry q
theorem L7 (b : Expr) {op : CmpOp} (h : op ≠ .In := by decide) (h2 : op ≠ .NotIn := by decide) : behindInMarks op b = false := by
 have e1 : (op == CmpOp.In) = false := by cases op <;> first | rfl | exact absurd rfl h
 have e2 : (op == CmpOp.NotIn) = false := by cases op <;> first | rfl | exact absurd rfl h2
 cases b <;> simp [behindInMarks, e1, e2]
theorem NL {op : CmpOp} {r : R2} (ho : OpR X (compareOp op) r) (ha : PE X a ta) (hb : PE X b tb) (hm : behindInMarks op b = false) : PE X (.Compare a [op] [b] pos) (tOp r ta tb) := by
 intro pins s σ H Q I h
 exact wpAny_Compare1 (ZcF ha hb I h fun v u s2 x y H2 I2 rx ry q => ho pins s2 σ H2 x y v u Q I2 rx ry q) hm
noncomputable def RY (t : TE) : TT := fun σ H Q => t σ H fun x H' => ∃ k, x = .bl k ∧ Q k H'
theorem OC {op : CmpOp} {r : R2} (ho : OpR X (compareOp op) r) (ha : PE X a ta) (hb : PE X b tb) (hm : behindInMarks op b = false) : PT X (.Compare a [op] [b] pos) (RY (tOp r ta tb)) := by
 intro pins s σ H Q I h
 refine wpAny_isTrue_Compare1 (thn (ha pins s σ H _ I h) fun v s1 ⟨x, H1, I1, r1, q1⟩ => thn (hb pins s1 σ H1 _ I1 q1) fun u s2 ⟨y, H2, I2, r2, q2⟩ =>
  thn (ho pins s2 σ H2 x y v u _ I2 r1 r2 q2) fun c s3 ⟨z, H3, I3, r3, k, e, q3⟩ => ?_) hm
 subst e
 cases r3
 exact wpAny_truthy_bool ⟨H3, I3, q3⟩
noncomputable def Cb (r r' : R2) (ta tb tc : TE) : TE := fun σ H Q => ta σ H fun x H1 => tb σ H1 fun y H2 => r x y H2 fun z H3 => ∃ k, z = .bl k ∧
 (if k = true then tc σ H3 fun w' H4 => r' y w' H4 Q else Q (.bl false) H3)
theorem HI {op op' : CmpOp} {r r' : R2} (ho : OpR X (compareOp op) r) (ho' : OpR X (compareOp op') r') (ha : PE X a ta) (hb : PE X b tb) (hc : PE X c tc)
  (hm : lastMarks [op, op'] [b, c] = false := by with_unfolding_all rfl) : PE X (.Compare a [op, op'] [b, c] pos) (Cb r r' ta tb tc) := by
 intro pins s σ H Q I h
 refine Compare_chain (thn (ha pins s σ H _ I h) fun v s1 ⟨x, H1, I1, r1, q1⟩ => chain_link (thn (hb pins s1 σ H1 _ I1 q1) fun u s2 ⟨y, H2, I2, r2, q2⟩ =>
  thn (ho pins s2 σ H2 x y v u _ I2 r1 r2 q2) fun d s3 ⟨z, H3, I3, r3, k, e, q3⟩ => ?_)) hm
 subst e
 cases r3
 refine wpAny_truthy_bool ?_
 cases k with
 | false => exact ite_ff ⟨.bl false, H3, I3, rfl, q3⟩
 | true => exact ite_tt (chain_last (thn (hc pins s3 σ H3 _ I3 q3) fun w' s4 ⟨z', H4, I4, r4, q4⟩ => ho' pins s4 σ H4 y z' u w' Q I4 r2 r4 q4))
theorem ER {op op' : CmpOp} {r r' : R2} (ho : OpR X (compareOp op) r) (ho' : OpR X (compareOp op') r') (ha : PE X a ta) (hb : PE X b tb) (hc : PE X c tc)
  (hm : lastMarks [op, op'] [b, c] = false := by with_unfolding_all rfl) : PT X (.Compare a [op, op'] [b, c] pos) (RY (Cb r r' ta tb tc)) := by
 intro pins s σ H Q I h
 refine isTrue_chain (thn (ha pins s σ H _ I h) fun v s1 ⟨x, H1, I1, r1, q1⟩ => test_link (thn (hb pins s1 σ H1 _ I1 q1) fun u s2 ⟨y, H2, I2, r2, q2⟩ =>
  thn (ho pins s2 σ H2 x y v u _ I2 r1 r2 q2) fun d s3 ⟨z, H3, I3, r3, k, e, q3⟩ => ?_)) hm
 subst e
 cases r3
 refine wpAny_truthy_bool ?_
 cases k with
 | false =>
  obtain ⟨k', e', q'⟩ := q3
  cases e'
  exact ite_ff ⟨H3, I3, q'⟩
 | true =>
  refine ite_tt (test_last (thn (hc pins s3 σ H3 _ I3 q3) fun w' s4 ⟨z', H4, I4, r4, q4⟩ => thn (ho' pins s4 σ H4 y z' u w' _ I4 r2 r4 q4) fun d' s5 ⟨z2, H5, I5, r5, k2, e2, q5⟩ => ?_))
  subst e2
  cases r5
  exact wpAny_truthy_bool ⟨H5, I5, q5⟩
noncomputable def Zgd (K : PySem.W.Frag) (x : V) (H : Hp) (k : Bool) : Prop :=
 match x with
 | .non => k = false
 | .bl b => k = b
 | .int i => k = (i != 0)
 | .str y => y.length ≤ sizeLine ∧ k = ((y.length : Int) != 0)
 | .byt y => y.size ≤ sizeLine ∧ k = ((y.size : Int) != 0)
 | .ref p => (∃ xs, SqL K H p xs ∧ k = !xs.isEmpty) ∨ (∃ xs, SqT K H p xs ∧ k = !xs.isEmpty) ∨ ∃ kvs, H p = some (.dK kvs) ∧ k = !kvs.isEmpty
 | _ => False
theorem Xa : (sizeLine : Nat) < 2 ^ 63 := by rw [sizeLine_eq]; decide
noncomputable def Zau (b : Expr) : Prop := ∀ o i, subscripted b false o i = operate [o, i] (getItem o i)
theorem vals1 {x : V} {us : List Value} (r : Vals [x] us) : ∃ u, us = [u] ∧ RelV x u := by
 cases r with
 | cons r1 r2 => cases r2; exact ⟨_, rfl, r1⟩
theorem vals2 {x y : V} {us : List Value} (r : Vals [x, y] us) : ∃ u w', us = [u, w'] ∧ RelV x u ∧ RelV y w' := by
 cases r with
 | cons r1 r2 =>
  cases r2 with
  | cons r3 r4 => cases r4; exact ⟨_, _, rfl, r1, r3⟩
theorem Hw : QO X (.builtin "abs") (fun xs H Q => ∃ i, xs = [.int i] ∧ Q (.int (if i < 0 then -i else i)) H) := by
 intro pins s σ H xs us Q I r h
 obtain ⟨i, rfl, q⟩ := h
 obtain ⟨u, rfl, t, rfl⟩ := vals1 r
 exact call_abs_int fun u tk => ⟨.int (if i < 0 then -i else i), H, I.tok _, ⟨_, rfl⟩, q⟩
theorem Cp (hc : X.calm = true) : QO X (.builtin "max") (fun xs H Q => ∃ i j, xs = [.int i, .int j] ∧ Q (.int (if j > i then j else i)) H) := by
 intro pins s σ H xs us Q I r h
 obtain ⟨i, j, rfl, q⟩ := h
 obtain ⟨u, w', rfl, ⟨t, rfl⟩, ⟨t', rfl⟩⟩ := vals2 r
 refine max_two_ints (I.ok.hd hc) fun h' tk k => ⟨_, H, I.kept k, ?_, q⟩
 by_cases hj : j > i
 ·rw [if_pos hj, if_pos hj]; exact ⟨_, rfl⟩
 ·rw [if_neg hj, if_neg hj]; exact ⟨_, rfl⟩
theorem Wn : QO X (.type "str") (fun xs H Q => ∃ i, xs = [.int i] ∧ i.natAbs.log2 < 1920 ∧ Q (.str (toString i)) H) := by
 intro pins s σ H xs us Q I r h
 obtain ⟨i, rfl, hz, q⟩ := h
 obtain ⟨u, rfl, t, rfl⟩ := vals1 r
 exact PySem.P.str_of_int hz ⟨.str _, H, I.tok _, ⟨_, rfl⟩, q⟩
noncomputable def Zf2 (K : PySem.W.Frag) (x : V) (H : Hp) (n : Nat) : Prop :=
 match x with
 | .str y => y.length ≤ sizeLine ∧ n = y.length
 | .byt y => y.size ≤ sizeLine ∧ n = y.size
 | .ref p => (∃ xs, SqL K H p xs ∧ n = xs.length) ∨ ∃ xs, SqT K H p xs ∧ n = xs.length
 | _ => False
end
end L2
namespace L2
open PySem PySem.Spec PyProof.Rows
structure ZfT (h : Heap) (x dx C : Addr) (mA : Str → Option Value) : Prop where
 obj : h.get? x = some (PySem.W.instObj C dx)
 ns : h.Ns1 dx mA
 ne : dx ≠ x
section
variable {prog : Program} {w : World} {A : Around} {E : Value → Shared → Prop} {s : Shared} {K : PySem.W.Frag} {x dx C f : Addr} {mA : Str → Option Value} {name : Str} {v : Value}
end
noncomputable def Zbn (f : Str) (v : V) : List (Str × V) → List (Str × V)
 | [] => [(f, v)]
 | (g, x) :: r => if g = f then (g, v) :: r else (g, x) :: Zbn f v r
section
variable {P : Program} {w : World} {H H' : Hp} {h h' : Heap} {a C dx : Addr} {fs fs' : List (Str × V)}
end
structure Cls (K : PySem.W.Frag) (C : Addr) : Prop where
 pg : PySem.W.plainGet K C Str.empty = true
 hd : PySem.W.hasDictIn K C = true
 po : PySem.W.plainOver K C = true
 sa : PySem.W.findIn K (.ref C) "__setattr__" = some (some (.builtin "object.__setattr__"))
theorem Cls.get {K : PySem.W.Frag} {C : Addr} (c : Cls K C) (f : Str) : PySem.W.plainGet K C f = true := c.pg
noncomputable def Cw (K : PySem.W.Frag) (C : Addr) (f : Str) : Prop := PySem.W.findIn K (.ref C) f = some none
structure Con (K : PySem.W.Frag) (C : Addr) (f : Str) (v : V) (u : Value) : Prop where
 at_ : PySem.W.findIn K (.ref C) f = some (some u)
 rel : RelV v u
 get : PySem.W.specialIn K u "__get__" = some none
 cp : PySem.W.copiedNames.contains f = false
structure Meth (K : PySem.W.Frag) (C : Addr) (m : Str) (f : Addr) : Prop where
 at_ : PySem.W.findIn K (.ref C) m = some (some (.ref f))
 fn : PySem.W.isFn K (.ref f) = true
 kp : PySem.W.keepIn K (.ref f) = true
section
variable {X : Cx} {pins : List (Addr × Obj)} {σ : St} {H : Hp} {s : Shared} {a C dx : Addr} {fs : List (Str × V)} {f : Str} {v : V} {A : Around} {E : Value → Shared → Prop}
end
noncomputable def ZfU (K : PySem.W.Frag) (ta : TE) (f : Str) : TE := fun σ H Q => ta σ H fun x H1 => ∃ a C dx fs v, x = .ref a ∧ H1 a = some (.ins C dx fs) ∧ Cls K C ∧ Cw K C f ∧ fs.lookup f = some v ∧ Q v H1
noncomputable def Zgi (K : PySem.W.Frag) (ta : TE) (f : Str) : TE := fun σ H Q => ta σ H fun x H1 => ∃ a C dx fs v u, x = .ref a ∧ H1 a = some (.ins C dx fs) ∧ Cls K C ∧ Con K C f v u ∧ fs.lookup f = none ∧ Q v H1
noncomputable def Zga (K : PySem.W.Frag) (ta tv : TE) (f : Str) : TS := fun D σ H => tv σ H fun y H1 => ta σ H1 fun x H2 => ∃ a C dx fs, x = .ref a ∧ H2 a = some (.ins C dx fs) ∧ Cls K C ∧ Cw K C f ∧ fs.length < 1000 ∧
 D.nx σ (upd H2 a (.ins C dx (Zbn f y fs)))
noncomputable def ZfK (X : Cx) (op : Operator) (rd : V → V → Hp → VK → Prop) : Prop :=
 ∀ (pins : List (Addr × Obj)) (s : Shared) (σ : St) (H : Hp) (x y : V) (u v : Value) (Q : VK), Inv X pins σ H s → RelV x u → RelV y v → rd x y H Q → wpAny (model X.prog X.w) X.A (inplaceOp op u v) (EP X pins σ Q) X.xe s
noncomputable def ZbZ (K : PySem.W.Frag) (ta tv : TE) (rd : V → V → Hp → VK → Prop) (f : Str) : TS := fun D σ H => ta σ H fun x H1 => ∃ a C dx fs v, x = .ref a ∧ H1 a = some (.ins C dx fs) ∧ Cls K C ∧ Cw K C f ∧ fs.lookup f = some v ∧
 tv σ H1 fun y H2 => rd v y H2 fun z H3 => ∃ dx' fs', H3 a = some (.ins C dx' fs') ∧ fs'.length < 1000 ∧ D.nx σ (upd H3 a (.ins C dx' (Zbn f z fs')))
section
variable {X : Cx} {o e value : Expr} {f : Str} {pos pos' tpos : Pos} {ta tv : TE}
noncomputable def Zf1 : V → V → Hp → VK → Prop := fun x y H Q => ∃ i j, x = .int i ∧ y = .int j ∧ Q (.int (i + j)) H
noncomputable def ZfS : V → V → Hp → VK → Prop := fun x y H Q => ∃ i j, x = .int i ∧ y = .int j ∧ Q (.int (i - j)) H
end
section
variable {X : Cx} {pins : List (Addr × Obj)} {σ : St} {H : Hp} {s : Shared} {A : Around} {E : Value → Shared → Prop} {Q : Value → Shared → Prop} {c : Value} {b : Bool}
inductive Dz (K : PySem.W.Frag) (H : Hp) : V → Value → Prop where
 | non : Dz K H .non (.type "NoneType")
 | bl (x : Bool) : Dz K H (.bl x) (.type "bool")
 | int (i : Int) : Dz K H (.int i) (.type "int")
 | str (x : Str) : Dz K H (.str x) (.type "str")
 | flt (x : UInt64) : Dz K H (.flt x) (.type "float")
 | lst {a : Addr} {xs : List V} (e : H a = some (.lst xs)) : Dz K H (.ref a) (.type "list")
 | frz {a : Addr} {o : Obj} {xs : List V} (e : H a = some (.frz o (.lst xs))) : Dz K H (.ref a) (.type "list")
 | tup {a : Addr} {xs : List V} (e : H a = some (.tup xs)) : Dz K H (.ref a) (.type "tuple")
 | dK {a : Addr} {kvs : List (Key × V)} (e : H a = some (.dK kvs)) : Dz K H (.ref a) (.type "dict")
 | dT {a : Addr} {kvs : List (List Key × V)} (e : H a = some (.dT kvs)) : Dz K H (.ref a) (.type "dict")
 | ins {a C dx : Addr} {fs : List (Str × V)} (e : H a = some (.ins C dx fs)) (cl : Cls K C) (ha : PySem.W.findIn K (.ref C) "__class__" = some (some (.builtin "object.__class__")))
   (hn : PySem.W.specialIn K (.builtin "object.__class__") "__get__" = some (some (.builtin "getset_descriptor.__get__"))) (htk : PySem.W.takesIn K (.builtin "object.__class__") = some true)
   (hm : PySem.W.mroIn K C (.type "object") = some true) : Dz K H (.ref a) (.ref C)
end
end L2
namespace L2
open PySem PySem.Spec PyProof.Rows
structure Vw (k : Nat) (A : Around) : Prop where
 hd : A.handled = none
 dp : A.depth + 3 * k + 5 < recursionLimit
 un : A.units + 16 * k + 200 < cLine
 gd : A.guards = some []
theorem Vw.mono {j k : Nat} {A : Around} (r : Vw k A) (h : j ≤ k) : Vw j A := ⟨r.hd, by have := r.dp; omega, by have := r.un; omega, r.gd⟩
theorem Vw.deeper {k : Nat} {A : Around} (r : Vw (k + 1) A) (env : Env) : Vw k (A.deeper env) :=
 ⟨r.hd, by have := r.dp; show A.depth + 1 + 3 * k + 5 < _; omega, by have := r.un; show A.units + 3 + 16 * k + 200 < _; omega, r.gd⟩
theorem Vw.depth {k : Nat} {A : Around} (r : Vw k A) : A.depth < recursionLimit := by have := r.dp; omega
theorem Vw.units {k : Nat} {A : Around} (r : Vw k A) : A.units + 64 < cLine := by have := r.un; omega
noncomputable def ZeR : TA := fun _ H Q => Q [] H
noncomputable def Zbx (ta : TE) (tr : TA) : TA := fun σ H Q => ta σ H fun x H1 => tr σ H1 fun xs H2 => Q (x :: xs) H2
section
variable {X : Cx} {e : Expr} {es : List Expr} {te : TE} {t : TA} {pos : Pos}
theorem Xf : PA X [] ZeR := fun _ _ _ _ H Q I h => Calls.spliced_nil ⟨[], H, I, .nil, h⟩
theorem Jg (ha : PE X e te) (hr : PA X es t) (hs : starEach (e :: es) X.env = (false, eval e X.env) :: starEach es X.env := by rfl) : PA X (e :: es) (Zbx te t) := by
 intro pos pins s σ H Q I h
 rw [hs]
 show wpAny _ _ (spliced ((false, eval e X.env) :: backTo pos (starEach es X.env))) _ _ s
 refine Calls.spliced_cons (thn (ha pins s σ H _ I h) fun u s1 ⟨x, H1, I1, r1, q1⟩ => ?_)
 exact thn (hr pos pins s1 σ H1 _ I1 q1) fun us s2 ⟨xs, H2, I2, r2, q2⟩ => ⟨x :: xs, H2, I2, .cons r1 r2, q2⟩
noncomputable def ZeB (t : TA) : TE := fun σ H Q => t σ H fun xs H1 => xs.length ≤ sizeLine ∧ ∀ p, H1 p = none → Q (.ref p) (upd H1 p (.tup xs))
noncomputable def Zfm (t : TA) : TE := fun σ H Q => t σ H fun xs H1 => xs.length ≤ sizeLine ∧ ∀ p, H1 p = none → Q (.ref p) (upd H1 p (.lst xs))
theorem BN {x1} (h : PA X es t) : PE X (.Tuple es x1 pos) (ZeB t) := by
 intro pins s σ H Q I hq
 refine wpAny_Tuple_spliced (thn (h pos pins s σ H _ I hq) fun us s1 ⟨xs, H1, I1, r, z, q⟩ => ⟨by rw [← r.length]; exact z, ?_⟩)
 have hf : H1 s1.heap.objs.size = none := I1.hok.fresh (Nat.le_refl _)
 refine ⟨.ref s1.heap.objs.size, upd H1 s1.heap.objs.size (.tup xs), I1.laid (t' := s1.toks) (fun b u e => Heap.get?_push_of_some _ e) (Nat.le_refl _) ?_, rfl, q _ hf⟩
 exact ⟨z, us, r, ⟨_, Heap.get?_push_size _ rfl, rfl, _, rfl⟩⟩
theorem LS (h : PA X es t) : PE X (.List es pos) (Zfm t) := by
 intro pins s σ H Q I hq
 refine wpAny_List_spliced (thn (h pos pins s σ H _ I hq) fun us s1 ⟨xs, H1, I1, r, z, q⟩ => ⟨by rw [← r.length]; exact z, ?_⟩)
 have hf : H1 s1.heap.objs.size = none := I1.hok.fresh (Nat.le_refl _)
 refine ⟨.ref s1.heap.objs.size, upd H1 s1.heap.objs.size (.lst xs), I1.laid (t' := s1.toks) (fun b u e => Heap.get?_push_of_some _ e) (Nat.le_refl _) ?_, rfl, q _ hf⟩
 exact ⟨z, us, 0, r, Heap.get?_push_size _ rfl⟩
end
noncomputable abbrev Sp := List V → Hp → VK → XK → Prop
noncomputable abbrev CXT := List Env → Hp → Shared → XK → Value → Shared → Prop
structure ZaR (P : Program) (w : World) (K : PySem.W.Frag) (mg : Str → Option Value) (base : Heap) (A : Around) (outer : List Env) (s : Shared) (H : Hp) : Prop where
 frames : A.frames = some outer
 mod : Mod K mg base
 bs : ∀ b o, base.get? b = some o → s.heap.get? b = some o ∧ H b = none
 bsz : base.objs.size ≤ s.heap.objs.size
 Be : s.heap.FunFrames base outer
 frf : ∀ b ∈ frs outer, H b = none
 hok : HOk P w H s.heap
 bare : AllBare s.gens
noncomputable def CE (outer : List Env) (P : Program) (w : World) (H : Hp) (s : Shared) (Q : VK) (u : Value) (s' : Shared) : Prop :=
 ∃ v H', s'.os = s.os ∧ AllBare s'.gens ∧ Un (frs outer) [] H H' s.heap s'.heap ∧ HOk P w H' s'.heap ∧ RelV v u ∧ Q v H'
noncomputable def CR (CX : CXT) (outer : List Env) (P : Program) (w : World) (H : Hp) (s : Shared) (Q : VK) (E : XK) (r : Result) (s' : Shared) : Prop :=
 match r with
 | .ok (.ret u) => CE outer P w H s Q u s'
 | .ok _ => False
 | .error e => CX outer H s E e s'
structure ZZ (P : Program) (w : World) (K : PySem.W.Frag) (mg : Str → Option Value) (base : Heap) (CX : CXT) (k : Nat) (f : Addr) (fd : FuncData) (ps : List Str) (sp : Sp) : Prop where
 len : ∀ vs H Q E, sp vs H Q E → vs.length = ps.length
 run : ∀ (A : Around) (outer : List Env) (s : Shared) (H : Hp) (args : Args) (us : List Value) (vs : List V) (Q : VK) (E : XK), Vw k A → ZaR P w K mg base A outer s H → BindsTo s fd args (ps.zip us) → Vals vs us → sp vs H Q E →
  codeAny (model P w) A (.call (.ref f) args) (CR CX outer P w H s Q E) s
section
variable {X : Cx} {pins : List (Addr × Obj)} {σ : St} {H : Hp} {s s' : Shared}
theorem Inv.ZcV (I : Inv X pins σ H s) : ZaR X.prog X.w X.K X.mg X.base X.A X.stack s H :=
 ⟨I.ok.frames, I.ok.mod, I.bs, Nat.le_trans I.ok.bsz I.sz, I.stack, I.W0, I.hok, I.bare⟩
theorem Inv.after {Q : VK} {u : Value} (I : Inv X pins σ H s) (h : CE X.stack X.prog X.w H s Q u s') : EP X pins σ Q u s' := by
 obtain ⟨v, H', os, bare, un, hok, r, q⟩ := h
 obtain ⟨hh, g, d, t, os'⟩ := s'
 obtain rfl : os' = s.os := os
 exact ⟨v, H', I.call (h' := hh) (g' := g) (d' := d) (t' := t) (ch := []) un hok bare (fun b z => absurd z (by simp)), r, q⟩
end
noncomputable def ZbA (sp : Sp) (dvs : List V) (E : XK) (t : TA) : TE := fun σ H Q => t σ H fun vs H1 => sp (vs ++ dvs) H1 Q E
noncomputable def Zeq (C : Addr) (m : Str) (sp : Sp) (dvs : List V) (E : XK) (ta : TE) (t : TA) : TE := fun σ H Q => ta σ H fun x H1 => ∃ a dx fs, x = .ref a ∧ H1 a = some (.ins C dx fs) ∧ fs.lookup m = none ∧
 t σ H1 fun vs H2 => sp (x :: (vs ++ dvs)) H2 Q E
noncomputable def ZeG (C : Addr) (sp : Sp) (dvs : List V) (E : XK) (t : TA) : TE := fun σ H Q => t σ H fun vs H1 => ∀ x dx, H1 x = none → H1 dx = none → dx ≠ x →
 sp (.ref x :: (vs ++ dvs)) (upd (upd H1 dx (.own x)) x (.ins C dx [])) (fun v H2 => v = .non ∧ Q (.ref x) H2) E
noncomputable def Binds (K : PySem.W.Frag) (fd : FuncData) (ps : List Str) (ds : List Value) : Prop :=
 ∀ (s : Shared) (us : List Value), K.In s.heap → (us ++ ds).length = ps.length → BindsTo s fd ⟨us, []⟩ (ps.zip (us ++ ds))
theorem Binds.all {K : PySem.W.Frag} {fd : FuncData} {ps : List Str} (h : ∀ us : List Value, us.length = ps.length → bindArgs fd ⟨us, []⟩ = pure (ps.zip us)) : Binds K fd ps [] := fun s us _ hl => by
 rw [List.append_nil] at hl ⊢
 exact .of_eq (h us hl)
noncomputable def Passes (CX : CXT) (X : Cx) (E : XK) : Prop := ∀ (pins : List (Addr × Obj)) (σ : St) (H : Hp) (s : Shared) (e : Value) (s' : Shared), Inv X pins σ H s → CX X.stack H s E e s' → X.xe e s'
section
variable {X : Cx} {CX : CXT} {k : Nat} {f C : Addr} {fd : FuncData} {ps : List Str} {sp : Sp} {dvs : List V} {ds : List Value} {E : XK} {x m : Str} {p pos apos : Pos} {e o : Expr} {es : List Expr} {ta : TE} {t : TA}
theorem Sw {pins : List (Addr × Obj)} {σ : St} {H : Hp} {s : Shared} {Q : VK} {us : List Value} {vs : List V} (F : ZZ X.prog X.w X.K X.mg X.base CX k f fd ps sp) (hr : Vw k X.A) (hb : Binds X.K fd ps ds) (hd : Vals dvs ds) (hx : Passes CX X E)
  (I : Inv X pins σ H s) (r : Vals vs us) (h : sp (vs ++ dvs) H Q E) : wpAny (model X.prog X.w) X.A (call (.ref f) us) (EP X pins σ Q) X.xe s := by
 have r2 : Vals (vs ++ dvs) (us ++ ds) := r.append hd
 have hl : (us ++ ds).length = ps.length := by rw [← r2.length]; exact F.len _ _ _ _ h
 refine wpAny_call (codeAny_mono (F.run X.A X.stack s H ⟨us, []⟩ (us ++ ds) (vs ++ dvs) Q E hr I.ZcV (hb s us I.kIn hl) r2 h) fun r s' hq => ?_)
 cases r with
 | error e => exact hx pins σ H s e s' I hq
 | ok fl =>
  cases fl with
  | ret u => exact I.after hq
  | next => exact False.elim hq
  | brk => exact False.elim hq
  | cont => exact False.elim hq
theorem Ua (F : ZZ X.prog X.w X.K X.mg X.base CX k f fd ps sp) (hr : Vw k X.A) (hg : Gl X x) (hm : X.mg x = some (.ref f)) (hk : PySem.W.keepIn X.K (.ref f) = true) (hb : Binds X.K fd ps ds) (hd : Vals dvs ds) (hx : Passes CX X E)
  (ha : PA X (e :: es) t) (hdb : (x == ("__debug__" : Str)) = false := by decide) (he : starEach (e :: es) X.env = (false, eval e X.env) :: starEach es X.env := by rfl) (hpl : (backTo pos (starEach es X.env)).any (·.1) = false := by rfl) :
  PE X (.Call (.Name x p) (e :: es) [] pos) (ZbA sp dvs E t) := by
 intro pins s σ H Q I h
 refine wpAny_Call_Name_kw (Yf I hg hm ?_ hdb)
 refine PySem.W.callWith_K (h₀ := X.base) I.ok.mod.kin hk (thn (ha pos pins s σ H _ I h) fun us s1 ⟨vs, H1, I1, r, q⟩ => ⟨I1.kIn, ?_⟩) he hpl
 exact Sw F hr hb hd hx I1 r q
structure Mk (K : PySem.W.Frag) (C f : Addr) : Prop where
 makes : PySem.W.makesIn K C = true
 init : PySem.W.findIn K (.ref C) "__init__" = some (some (.ref f))
 fn : PySem.W.isFn K (.ref f) = true
 kp : PySem.W.keepIn K (.ref C) = true
end
noncomputable def PK (X : Cx) (kws : List Keyword) (t : TA) : Prop :=
 ∀ (pos : Pos) (pins : List (Addr × Obj)) (s : Shared) (σ : St) (H : Hp) (Q : List V → Hp → Prop), Inv X pins σ H s → t σ H Q → wpAny (model X.prog X.w) X.A (evalAll ((backToKw pos (keywordEach kws X.env)).map (·.2))) (AP X pins σ Q) X.xe s
section
variable {X : Cx} {CX : CXT} {k : Nat} {f C : Addr} {fd : FuncData} {ps ks : List Str} {sp : Sp} {E : XK} {x m : Str} {p pos apos kpos : Pos} {e o : Expr} {es : List Expr} {kws : List Keyword} {te ta : TE} {t tk : TA} {nm : Option Str}
structure ZdT (K : PySem.W.Frag) (fd : FuncData) (ps ks : List Str) (g : List Value → List Value → List Value) (gV : List V → List V → List V) : Prop where
 to : ∀ (s : Shared) (us ws : List Value), K.In s.heap → (g us ws).length = ps.length → BindsTo s fd ⟨us, ks.zip ws⟩ (ps.zip (g us ws))
 rel : ∀ {vs : List V} {us : List Value} {zs : List V} {ws : List Value}, Vals vs us → Vals zs ws → Vals (gV vs zs) (g us ws)
noncomputable def ZdB (sp : Sp) (gV : List V → List V → List V) (E : XK) (t tk : TA) : TE := fun σ H Q => t σ H fun vs H1 => tk σ H1 fun zs H2 => sp (gV vs zs) H2 Q E
variable {g : List Value → List Value → List Value} {gV : List V → List V → List V}
end
structure Zt (N P : List Str) (sc : Scope) : Prop where
 kind : sc.kind = .function
 co : sc.isCoroutine = false
 gen : sc.isGenerator = false
 nd : N.Nodup
 pre : N.take P.length = P
 par : ∀ x ∈ P, sc.names.lookup x = some .local ∨ sc.names.lookup x = some .cell
 nofree : ∀ y ∈ sc.names, y.2 ≠ .free
theorem WD {kindOf : Str → Option NameKind} {x : Str} : ∀ {binds : List (Str × Value)} {m : Str → Option Value}, (∀ v, (x, v) ∉ binds) → bindL kindOf binds m x = m x
 | [], _, _ => rfl
 | (n, v) :: r, m, h => by
  unfold bindL
  rw [WD fun w hw => h w (List.mem_cons_of_mem _ hw)]
  split
  ·have : x ≠ n := by rintro rfl; exact h v List.mem_cons_self
   simp [this]
  ·rfl
theorem Kx {kindOf : Str → Option NameKind} {x : Str} : ∀ {binds : List (Str × Value)} {m : Str → Option Value}, (∀ v, (x, v) ∉ binds) → bindC kindOf binds m x = m x
 | [], _, _ => rfl
 | (n, v) :: r, m, h => by
  unfold bindC
  rw [Kx fun w hw => h w (List.mem_cons_of_mem _ hw)]
  split
  ·rfl
  ·have : x ≠ n := by rintro rfl; exact h v List.mem_cons_self
   simp [this]
theorem WC {kindOf : Str → Option NameKind} {x : Str} {v : Value} : ∀ {P : List Str} {vs : List Value} {i : Nat} {m : Str → Option Value}, P.Nodup → P[i]? = some x → vs[i]? = some v → kindOf x = some .local →
  bindL kindOf (P.zip vs) m x = some v
 | [], _, _, _, _, h, _, _ => by simp at h
 | _ :: _, [], _, _, _, _, h, _ => by simp at h
 | p :: P, w :: vs, 0, m, nd, h1, h2, hk => by
  simp at h1 h2; subst h1; subst h2
  show bindL kindOf ((p, w) :: P.zip vs) m p = _
  unfold bindL
  rw [WD fun v hv => (List.nodup_cons.mp nd).1 (List.of_mem_zip hv).1, if_pos hk]
  simp
 | p :: P, w :: vs, i + 1, m, nd, h1, h2, hk => by
  show bindL kindOf ((p, w) :: P.zip vs) m x = _
  unfold bindL
  exact WC (i := i) (List.nodup_cons.mp nd).2 (by simpa using h1) (by simpa using h2) hk
theorem Wm {kindOf : Str → Option NameKind} {x : Str} {v : Value} : ∀ {P : List Str} {vs : List Value} {i : Nat} {m : Str → Option Value}, P.Nodup → P[i]? = some x → vs[i]? = some v → kindOf x ≠ some .local →
  bindC kindOf (P.zip vs) m x = some v
 | [], _, _, _, _, h, _, _ => by simp at h
 | _ :: _, [], _, _, _, _, h, _ => by simp at h
 | p :: P, w :: vs, 0, m, nd, h1, h2, hk => by
  simp at h1 h2; subst h1; subst h2
  show bindC kindOf ((p, w) :: P.zip vs) m p = _
  unfold bindC
  rw [Kx fun v hv => (List.nodup_cons.mp nd).1 (List.of_mem_zip hv).1, if_neg hk]
  simp
 | p :: P, w :: vs, i + 1, m, nd, h1, h2, hk => by
  show bindC kindOf ((p, w) :: P.zip vs) m x = _
  unfold bindC
  exact Wm (i := i) (List.nodup_cons.mp nd).2 (by simpa using h1) (by simpa using h2) hk
noncomputable def start (N : List Str) (vs : List V) : St := vs.map some ++ List.replicate (N.length - vs.length) none
noncomputable def G6 (CX : CXT) (P : Program) (w : World) (K : PySem.W.Frag) (mg : Str → Option Value) (base : Heap) (N : List Str) (qual : Str) (scope : Scope) (f : Addr) (cd : Value) (A : Around) (outer : List Env) (s : Shared) (H : Hp) (E : XK) : Cx where
 prog := P
 w := w
 K := K
 mg := mg
 base := base
 A := A.deeper (envOfC qual scope s.heap.objs.size f cd)
 N := N
 s₀ := s
 H₀ := H
 env := envOfC qual scope s.heap.objs.size f cd
 outer := outer
 stack := envOfC qual scope s.heap.objs.size f cd :: outer
 ex := []
 calm := true
 fn := fun _ => true
 pn := []
 xe := fun e s' => wpAny (model P w) (A.deeper (envOfC qual scope s.heap.objs.size f cd)) (leaving (envOfC qual scope s.heap.objs.size f cd) e) (fun _ s'' => CX outer H s E e s'') (fun e' s'' => CX outer H s E e' s'') s'
theorem Gk {sc : Scope} {n : Nat} {x : Str} (h : sc.names.lookup x = some .cell) : ∃ c, (cellsFrom n sc.names []).lookup x = some c := by
 have q := PySem.W.cellsFrom_some sc.names n [] (.inl h)
 exact Option.isSome_iff_exists.mp q
theorem Eb {CX : CXT} {P : Program} {w : World} {K : PySem.W.Frag} {mg : Str → Option Value} {base : Heap} {N ps : List Str} {qual : Str} {scope : Scope} {f : Addr} {cd : Value} {A : Around} {outer : List Env} {s s1 : Shared} {H : Hp} {E : XK} {us : List Value} {vs : List V}
  (S : Zt N ps scope) (hd : A.handled = none) (e0 : ZaR P w K mg base A outer s H) (hl : vs.length = ps.length) (r : Vals vs us)
  (x : InCallC s s.heap.objs.size (bindL (envOfC qual scope s.heap.objs.size f cd).kindOf (ps.zip us) fun _ => none) (cellsFrom (s.heap.objs.size + 1) scope.names []) (bindC (envOfC qual scope s.heap.objs.size f cd).kindOf (ps.zip us) fun _ => none) s1) :
  Inv (G6 CX P w K mg base N qual scope f cd A outer s H E) [] (start N vs) H s1 := by
 have hpl : ps.length ≤ N.length := by have := congrArg List.length S.pre; rw [List.length_take] at this; omega
 obtain ⟨h1, tk, rfl, hk⟩ := x.done
 have noA : ∀ b : Addr, b ∉ (G6 CX P w K mg base N qual scope f cd A outer s H E).ex := fun b z => absurd (show b ∈ ([] : List Addr) from z) (by simp)
 refine ⟨⟨e0.mod, S.kind, rfl, rfl, Nat.le_refl _, fun y z c h1 h2 => ?_, fun y hy => ?_, fun y c _ h => ?_, fun _ => hd, Around.frames_deeper e0.frames, .inr ⟨rfl, rfl⟩, fun b z => absurd z (noA b), e0.bs, e0.bsz, fun b _ _ => noA b, fun b z => absurd z (noA b), e0.Be, e0.frf⟩,
  rfl, e0.bare, Un.kept hk, ⟨_, x.toInCall.ns, fun i y v h1 h2 h3 => ?_⟩, fun y c h => ⟨_, x.cell y c h⟩, e0.hok.fresh (Nat.le_refl _), fun y c h => ?_, fun p hp => absurd (show p ∈ ([] : List (Addr × Obj)) from hp) (by simp), e0.hok.kept hk, ?_⟩
 ·exact name_of_addr x.apart (PySem.mem_of_lookup h1) (PySem.mem_of_lookup h2)
 ·have hy : scope.names.lookup y = some .cell ∨ scope.names.lookup y = some .free := hy
  rcases hy with hy | hy
  ·exact Gk hy
  ·exact absurd rfl (S.nofree _ (PySem.mem_of_lookup hy))
 ·exact Nat.le_of_lt (x.above y c (PySem.mem_of_lookup h))
 ·have hi : i < vs.length := by
   unfold start at h2
   by_cases hi : i < vs.length
   ·exact hi
   ·rw [List.getElem?_append_right (by simpa using hi)] at h2
    rw [List.getElem?_replicate] at h2
    split at h2 <;> cases h2
  have ha : vs[i]? = some v := by
   unfold start at h2
   rw [List.getElem?_append_left (by simpa using hi), List.getElem?_map] at h2
   cases e : vs[i]? with
   | none => rw [e] at h2; cases h2
   | some a => rw [e] at h2; cases h2; rfl
  obtain ⟨u, hu, rv⟩ := r.get ha
  have hp : ps[i]? = some y := by
   rw [← S.pre, List.getElem?_take_of_lt (by omega)]; exact h1
  have ndP : ps.Nodup := by rw [← S.pre]; exact S.nd.sublist (List.take_sublist _ _)
  refine ⟨u, rv, ?_⟩
  rcases S.par y (List.mem_of_getElem? hp) with k | k
  ·exact .inl ⟨k, WC ndP hp hu k⟩
  ·obtain ⟨c, e⟩ := Gk (n := s.heap.objs.size + 1) k
   refine .inr ⟨.inl k, c, e, ?_⟩
   have q := x.cell y c e
   rw [Wm ndP hp hu (by show scope.names.lookup y ≠ _; rw [k]; decide)] at q
   exact q
 ·exact e0.hok.fresh (Nat.le_of_lt (x.above y c (PySem.mem_of_lookup h)))
 ·unfold start
  show _ = N.length
  rw [List.length_append, List.length_map, List.length_replicate]
  omega
theorem Rl {CX : CXT} {P : Program} {w : World} {K : PySem.W.Frag} {mg : Str → Option Value} {base : Heap} {k : Nat} {f : Addr} {name qual : Str} {params : Arguments} {body : List Stmt} {scope : Scope} {dV kV doc pm cdv ct oc : Value} {an od : Option Addr}
  {osl : Array (Option Value)} {N ps : List Str} {sp : Sp} (lk : K.lookup f = some ⟨oc, od, .func (PySem.W.fnOf name qual params body scope dV kV doc pm an cdv ct), osl⟩) (hcd : PySem.W.codeIn K cdv qual = true) (S : Zt N ps scope)
  (len : ∀ vs H Q E, sp vs H Q E → vs.length = ps.length)
  (hbody : ∀ (A : Around) (outer : List Env) (s : Shared) (H : Hp) (vs : List V) (Q : VK) (E : XK), Vw k (A.deeper (envOfC qual scope s.heap.objs.size f cdv)) → sp vs H Q E →
   ∃ t, PSs (G6 CX P w K mg base N qual scope f cdv A outer s H E) body t ∧ t { nx := fun _ H' => Q .non H', rt := Q } (start N vs) H) :
  ZZ P w K mg base CX (k + 1) f (PySem.W.fnOf name qual params body scope dV kV doc pm an cdv ct) ps sp := by
 refine ⟨len, fun A outer s H args us vs Q E hr e0 hb r hsp => ?_⟩
 have hl := len _ _ _ _ hsp
 have KX : K.In s.heap := e0.mod.kin.keeps fun b o e => (e0.bs b o e).1
 have lim : s.heap.NoLimit := e0.mod.nolimit.keeps fun b o e => (e0.bs b o e).1
 have hkind : ∀ y ∈ ps.zip us, scope.names.lookup y.1 = some .local ∨ (scope.names.lookup y.1 = some .cell ∧ ((cellsFrom (s.heap.objs.size + 1) scope.names []).lookup y.1).isSome = true) := fun ⟨n, v⟩ hy => by
  rcases S.par n (List.of_mem_zip hy).1 with q | q
  ·exact .inl q
  ·exact .inr ⟨q, PySem.W.cellsFrom_some _ _ _ (.inl q)⟩
 refine codeAny_call_function hr.depth (KX _ _ lk) rfl S.co S.gen rfl (PySem.W.codeRec_of KX hcd) (hb _ _ _ _ ?_)
 refine wpAny_newFunctionEnv_cells S.kind hkind fun env he s1 x => ?_
 subst he
 refine ⟨lim.keeps x.toInCall.keep, codeAny_func ?_⟩
 obtain ⟨t, ht, hq⟩ := hbody A outer s H vs Q E (hr.deeper _) hsp
 have I : Inv (G6 CX P w K mg base N qual scope f cdv A outer s H E) [] (start N vs) H s1 := Eb S hr.hd e0 hl r x
 refine wpAny_mono (ht [] s1 (start N vs) H _ I hq) (fun fl s' hs => ?_) fun e s' hs => hs
 have fin : ∀ {σ' : St} {H' : Hp} {v : V} {u : Value}, Inv (G6 CX P w K mg base N qual scope f cdv A outer s H E) [] σ' H' s' → RelV v u → Q v H' → CE outer P w H s Q u s' :=
  fun {σ' H' v u} J rv q => ⟨v, H', J.os, J.bare, J.base, J.hok, rv, q⟩
 cases fl with
 | ret u =>
  obtain ⟨v, σ', H', J, rv, q⟩ := hs
  exact fin J rv q
 | next =>
  obtain ⟨σ', H', J, q⟩ := hs
  exact fin (v := V.non) (u := Value.none) J rfl q
 | brk =>
  obtain ⟨_, _, _, q⟩ := hs
  exact False.elim q
 | cont =>
  obtain ⟨_, _, _, q⟩ := hs
  exact False.elim q
end L2
namespace L2
open PySem PySem.Spec PyProof.Rows
section
variable {X : Cx} {x : Str} {p pos : Pos} {e : Expr} {es : List Expr} {t : TA} {id T : String} {r : List V → Hp → VK → Prop}
noncomputable def tCB (r : List V → Hp → VK → Prop) (t : TA) : TE := fun σ H Q => t σ H fun vs H1 => r vs H1 Q
theorem XH (hc : QO X (.builtin id) r) (hg : Gl X x) (hm : X.mg x = none) (hv : bootBuiltins x = some (.builtin id)) (ha : PA X (e :: es) t) (hn : x ≠ "__name__" := by decide) (hdb : (x == ("__debug__" : Str)) = false := by decide)
  (he : starEach (e :: es) X.env = (false, eval e X.env) :: starEach es X.env := by rfl) (hpl : (backTo pos (starEach es X.env)).any (·.1) = false := by rfl) : PE X (.Call (.Name x p) (e :: es) [] pos) (tCB r t) := by
 intro pins s σ H Q I h
 refine wpAny_Call_Name_kw (WE I hg hm hv ?_ hn hdb)
 exact PyProof.Rows.callWith_builtin1 (thn (ha pos pins s σ H _ I h) fun us s1 ⟨vs, H1, I1, r1, q1⟩ => hc pins s1 σ H1 vs us Q I1 r1 q1) he hpl
theorem Df (hc : QO X (.type T) r) (hg : Gl X x) (hm : X.mg x = none) (hv : bootBuiltins x = some (.type T)) (ha : PA X (e :: es) t) (hn : x ≠ "__name__" := by decide) (hdb : (x == ("__debug__" : Str)) = false := by decide)
  (he : starEach (e :: es) X.env = (false, eval e X.env) :: starEach es X.env := by rfl) (hpl : (backTo pos (starEach es X.env)).any (·.1) = false := by rfl) : PE X (.Call (.Name x p) (e :: es) [] pos) (tCB r t) := by
 intro pins s σ H Q I h
 refine wpAny_Call_Name_kw (WE I hg hm hv ?_ hn hdb)
 exact PyProof.Rows.callWith_type1 (thn (ha pos pins s σ H _ I h) fun us s1 ⟨vs, H1, I1, r1, q1⟩ => hc pins s1 σ H1 vs us Q I1 r1 q1) he hpl
end
end L2
namespace HT
open PySem PyProof.Rows
noncomputable def lexLt : List Int → List Int → Bool
 | [], [] => false
 | [], _ :: _ => true
 | _ :: _, [] => false
 | x :: xs, y :: ys => if x = y then lexLt xs ys else decide (x < y)
section
open PySem.SeqAt
open PySem.AutoSeq1 (wpAny_loadPart')
open PySem.MeetsSeq PySem.MeetsSeq2 PySem.MeetsSeq3
end
section
variable {prog : Program} {w : World} {A : Around} {E : Value → Shared → Prop} {s : Shared}
theorem Ot {t b : Addr} {vs ws : List Value} {Q : Value → Shared → Prop} (ht : IsTup s.heap t vs.toArray) (hb : IsTup s.heap b ws.toArray) (hv : vs ≠ [])
  (h1 : ws = [] → Q (.ref t) s) (h2 : ws ≠ [] → Q (.ref s.heap.objs.size) { s with heap := s.heap.push { cls := .type "tuple", data := .seq (vs ++ ws).toArray } })
  (hsz : vs.length + ws.length ≤ sizeLine) : wpAny (model prog w) A (binaryOp .Add (.ref t) (.ref b)) Q E s := by
 obtain ⟨⟨cls, dd, data, sl⟩, ho, hc, n, hd⟩ := id ht
 obtain ⟨⟨cls2, dd2, data2, sl2⟩, ho2, hc2, n2, hd2⟩ := id hb
 simp only at hc hd hc2 hd2
 subst hc hd hc2 hd2
 have e : vs.toArray ++ ws.toArray = (vs ++ ws).toArray := by simp
 by_cases hw : ws = []
 ·exact concat_meets ⟨_, ho, rfl⟩ ⟨_, ho2, rfl⟩ noFill_tuple_add seq_tuple_add PySem.F.slot_tuple_add PySem.F.entry_tuple_add (PySem.F.args_tuple_add_2 _ _)
   (tuple_addW1 t b vs.toArray ws.toArray n n2 dd dd2 sl sl2 (by simpa using hv) (by simp [hw])) ⟨ho, ho2, h1 hw⟩
 ·refine concat_meets ⟨_, ho, rfl⟩ ⟨_, ho2, rfl⟩ noFill_tuple_add seq_tuple_add PySem.F.slot_tuple_add PySem.F.entry_tuple_add (PySem.F.args_tuple_add_2 _ _)
   (tuple_addW2 t b vs.toArray ws.toArray n n2 dd dd2 sl sl2 (by simpa using hv) (by simpa using hw) (by rw [List.size_toArray, List.size_toArray]; exact hsz)) ⟨ho, ho2, ?_⟩
  rw [e]
  exact h2 hw
noncomputable def sIx (n d : Nat) : Option Int → Nat
 | none => d
 | some v => if v < 0 then (v + (n : Int)).toNat else min v.toNat n
theorem Kp (n d : Nat) : sIx n d none = d := rfl
theorem MV (n d k : Nat) : sIx n d (some (k : Int)) = min k n := by
 show (if (k : Int) < 0 then ((k : Int) + (n : Int)).toNat else min (k : Int).toNat n) = min k n
 rw [if_neg (by omega), Int.toNat_natCast]
theorem Mg (n d : Nat) (hd : d ≤ n) (o : Option Int) : sIx n d o ≤ n := by
 cases o with
 | none => exact hd
 | some v =>
  show (if v < 0 then (v + (n : Int)).toNat else min v.toNat n) ≤ n
  by_cases hv : v < 0
  ·rw [if_pos hv]; omega
  ·rw [if_neg hv]; exact Nat.min_le_right _ _
theorem BL (v : Int) (n d : Nat) : (if v < 0 then max (v + (n : Int)) 0 else min v (n : Int)) = ((sIx n d (some v) : Nat) : Int) := by
 show (if v < 0 then max (v + (n : Int)) 0 else min v (n : Int)) = (((if v < 0 then (v + (n : Int)).toNat else min v.toNat n) : Nat) : Int)
 by_cases hv : v < 0
 ·simp only [if_pos hv]; omega
 ·simp only [if_neg hv]; omega
theorem Bg (lo hi : Option Int) (n : Nat) : Builtin.Slice.sliceAdjust lo hi 1 (n : Int) = (((sIx n 0 lo : Nat) : Int), ((sIx n n hi : Nat) : Int)) := by
 have h1 : ¬ ((1 : Int) < 0) := by omega
 unfold Builtin.Slice.sliceAdjust
 simp only [h1, if_false]
 refine Prod.ext ?_ ?_
 ·cases lo with
  | none => rfl
  | some v => exact BL v n 0
 ·cases hi with
  | none => rfl
  | some v => exact BL v n n
theorem Bf (i j : Nat) : Builtin.Slice.slicePlaces (i : Int) (j : Int) 1 = j - i := by
 unfold Builtin.Slice.slicePlaces
 have h1 : (1 : Int) > 0 := by omega
 simp only [h1, if_true, Int.ediv_one]
 split <;> omega
theorem Xc {v : Value} {o : Option Int} {Q : Option Int → Shared → Prop} (p : IsPart v o) (h : Q o s) : wpAny (model prog w) A (Builtin.Slice.slicePartIndex v) Q E s := by
 cases p with
 | none => exact slicePart_none h
 | int i t => exact slicePart_int h
theorem Ji {sl : Addr} {vl vu : Value} {lo hi : Option Int} {n : Nat} {Q : Int × Int × Nat → Shared → Prop} (hs : s.heap.IsSliceOf sl vl vu .none) (pl : IsPart vl lo) (pu : IsPart vu hi)
  (h : Q (((sIx n 0 lo : Nat) : Int), 1, sIx n n hi - sIx n 0 lo) s) : wpAny (model prog w) A (Builtin.Slice.sliceApplied (.ref sl) (pure (n : Int))) Q E s := by
 obtain ⟨os, hos, hcs, hds⟩ := id hs
 unfold Builtin.Slice.sliceApplied Builtin.Slice.sliceFields
 refine wpAny_bind (wpAny_bind (wpAny_field hos hds (x := vl) rfl (wpAny_bind (wpAny_field hos hds (x := vu) rfl (wpAny_bind (wpAny_field hos hds (x := .none) rfl (wpAny_pure ?_)))))))
 refine wpAny_bind (slicePart_none ?_)
 show wpAny _ _ (if ((1 : Int) == 0) = true then _ else _) _ _ s
 rw [if_neg (by decide)]
 refine wpAny_bind (Xc pl (wpAny_bind (Xc pu (wpAny_bind (wpAny_pure ?_)))))
 show wpAny _ _ (match Builtin.Slice.sliceAdjust lo hi 1 (n : Int) with | (lo, hi) => pure (lo, (1 : Int), Builtin.Slice.slicePlaces lo hi 1)) _ _ s
 rw [Bg lo hi n]
 show wpAny _ _ (pure (((sIx n 0 lo : Nat) : Int), (1 : Int), Builtin.Slice.slicePlaces ((sIx n 0 lo : Nat) : Int) ((sIx n n hi : Nat) : Int) 1)) _ _ s
 rw [Bf]
 exact wpAny_pure h
theorem Ls (xs : Array Value) (i k : Nat) : ((List.range k).filterMap fun (m : Nat) => xs[((i : Int) + (m : Int) * 1).toNat]?).toArray = ((xs.toList.drop i).take k).toArray := by
 have e : (fun (m : Nat) => xs[((i : Int) + (m : Int) * 1).toNat]?) = fun m => xs[i + m]? := by
  funext m
  have : ((i : Int) + (m : Int) * 1).toNat = i + m := by omega
  rw [this]
 rw [e]
 have := pick_run xs i k
 rw [List.filterMap_map] at this
 have e2 : ((fun x => xs[x]?) ∘ fun x => i + x) = fun m => xs[i + m]? := rfl
 rw [e2] at this
 rw [this]
theorem VI {t sl : Addr} {items : Array Value} {vl vu : Value} {lo hi : Option Int} {Q : Value → Shared → Prop} (ht : IsTup s.heap t items) (hs : s.heap.IsSliceOf sl vl vu .none) (pl : IsPart vl lo) (pu : IsPart vu hi)
  (hw : ¬ (sIx items.size 0 lo = 0 ∧ sIx items.size items.size hi = items.size))
  (h : Q (.ref s.heap.objs.size) { s with heap := s.heap.push { cls := .type "tuple", data := .seq ((items.toList.drop (sIx items.size 0 lo)).take (sIx items.size items.size hi - sIx items.size 0 lo)).toArray } })
  (hsz : items.size ≤ sizeLine) : wpAny (model prog w) A (getItem (.ref t) (.ref sl)) Q E s := by
 have htake : sizeOk (.seq ((items.toList.drop (sIx items.size 0 lo)).take (sIx items.size items.size hi - sIx items.size 0 lo)).toArray) := by
  show ((items.toList.drop (sIx items.size 0 lo)).take (sIx items.size items.size hi - sIx items.size 0 lo)).toArray.size ≤ sizeLine
  rw [List.size_toArray, List.length_take, List.length_drop, Array.length_toList]
  omega
 have hj : sIx items.size items.size hi ≤ items.size := Mg _ _ (Nat.le_refl _) hi
 obtain ⟨os, hos, hcs, hds⟩ := id hs
 have hTs : s.TypeIs (.ref sl) "slice" := ⟨os, hos, hcs⟩
 unfold getItem
 try with_reducible refine wpAny_holding ?_
 first | refine wpAny_bind (wpAny_pure ?_) | skip
 refine wpAny_bind (wpAny_sequenceKey ht.typeIs (by decide) ?_)
 refine wpAny_bind (wpAny_callSpecial?_slot (name := Str.ofString "__getitem__") ht.typeIs PyProof.Rows.slot_tuple_getitem
  (wpAny_call_entry PyProof.Rows.slot_tuple_getitem ht.typeIs entry_tuple_getitem ?_ (args_tuple_getitem _ _)))
 show wpAny _ _ (Builtin.Tuple.tupleItemsOf (.ref t) >>= _) _ _ s
 refine wpAny_bind (tupleItemsOf_ ht ?_)
 refine wpAny_bind (wpAny_typeOf hTs ?_)
 rw [if_pos (by decide)]
 refine wpAny_bind (Ji hs pl pu ?_)
 have hno : ¬ ((((sIx items.size 0 lo : Nat) : Int) == 0 && (1 : Int) == 1 && (sIx items.size items.size hi - sIx items.size 0 lo) == items.size) = true) := by
  intro q
  rw [Bool.and_eq_true, Bool.and_eq_true] at q
  have q1 : ((sIx items.size 0 lo : Nat) : Int) = 0 := eq_of_beq q.1.1
  have q2 : sIx items.size items.size hi - sIx items.size 0 lo = items.size := eq_of_beq q.2
  exact hw ⟨by omega, by omega⟩
 show wpAny _ _ (if (((sIx items.size 0 lo : Nat) : Int) == 0 && (1 : Int) == 1 && (sIx items.size items.size hi - sIx items.size 0 lo) == items.size) = true then _ else _) _ _ s
 rw [if_neg hno, Ls]
 first
  | exact wpAny_bind (m := Builtin.Tuple.tupleExact _) (wpAny_newObj_type (wpAny_pure ⟨_, rfl, wpAny_pure h⟩) htake)
  | exact wpAny_bind (m := Builtin.Tuple.tupleExact _) (wpAny_newObj_type (wpAny_bind (wpAny_pure (wpAny_pure ⟨_, rfl, wpAny_pure h⟩))) htake)
  | exact wpAny_bind (wpAny_bind (m := Builtin.Tuple.tupleExact _) (wpAny_newObj_type (wpAny_pure (wpAny_pure ⟨_, rfl, wpAny_pure h⟩)) htake))
  | exact wpAny_bind (wpAny_bind (m := Builtin.Tuple.tupleExact _) (wpAny_newObj_type (wpAny_pure ⟨_, rfl, wpAny_pure h⟩) htake))
end
end HT
namespace L2
open PySem PySem.Spec PyProof.Rows
noncomputable abbrev TO := St → Hp → (Option Int → Hp → Prop) → Prop
noncomputable def PO (X : Cx) (e : Option Expr) (t : TO) : Prop :=
 ∀ (pins : List (Addr × Obj)) (s : Shared) (σ : St) (H : Hp) (Q : Option Int → Hp → Prop), Inv X pins σ H s → t σ H Q →
  wpAny (model X.prog X.w) X.A (evalPart e X.env) (fun u s' => ∃ o H', Inv X pins σ H' s' ∧ IsPart u o ∧ Q o H') X.xe s
noncomputable def MH : TO := fun _ H Q => Q none H
noncomputable def ZbF (t : TE) : TO := fun σ H Q => t σ H fun x H1 => ∃ i, x = .int i ∧ Q (some i) H1
section
variable {X : Cx} {e : Expr} {te : TE} {lo hi : Option Expr} {tl th : TO} {pos p2 : Pos}
theorem O8 : PO X none MH := by
 intro pins s σ H Q I h
 rw [evalPart_none]
 exact wpAny_pure ⟨none, H, I, .none, h⟩
theorem N4 (h : PE X e te) : PO X (some e) (ZbF te) := by
 intro pins s σ H Q I hw
 rw [evalPart_some]
 refine thn (h pins s σ H _ I hw) fun u s1 ⟨x, H1, I1, r1, q1⟩ => ?_
 obtain ⟨i, rfl, q⟩ := q1
 obtain ⟨t, rfl⟩ := r1
 exact ⟨some i, H1, I1, .int i t, q⟩
noncomputable def SlR (X : Cx) (r : V → Option Int → Option Int → Hp → VK → Prop) : Prop :=
 ∀ (pins : List (Addr × Obj)) (s : Shared) (σ : St) (H : Hp) (x : V) (v vl vu : Value) (lo hi : Option Int) (sl : Addr) (Q : VK), Inv X pins σ H s → RelV x v → s.heap.IsSliceOf sl vl vu .none → IsPart vl lo → IsPart vu hi → r x lo hi H Q →
  ∃ T id, typeLookup (.type T) "__getitem__" = pure (some (.builtin id)) ∧ s.TypeIs v T ∧ wpAny (model X.prog X.w) X.A (getItem v (.ref sl)) (EP X pins σ Q) X.xe s
theorem SlR.or {r r' : V → Option Int → Option Int → Hp → VK → Prop} (h : SlR X r) (h' : SlR X r') : SlR X (fun x lo hi H Q => r x lo hi H Q ∨ r' x lo hi H Q) := by
 intro pins s σ H x v vl vu lo hi sl Q I rx hs pl pu q
 rcases q with q | q
 ·exact h pins s σ H x v vl vu lo hi sl Q I rx hs pl pu q
 ·exact h' pins s σ H x v vl vu lo hi sl Q I rx hs pl pu q
noncomputable def tSl (r : V → Option Int → Option Int → Hp → VK → Prop) (te : TE) (tl th : TO) : TE := fun σ H Q => te σ H fun x H1 => tl σ H1 fun l H2 => th σ H2 fun u H3 => r x l u H3 Q
theorem H0 {r : V → Option Int → Option Int → Hp → VK → Prop} (hr : SlR X r) (he : PE X e te) (hl : PO X lo tl) (hu : PO X hi th) : PE X (.Subscript e (.Slice lo hi none p2) pos) (tSl r te tl th) := by
 intro pins s σ H Q I h
 refine Subscript_ (thn (he pins s σ H _ I h) fun v s1 ⟨x, H1, I1, r1, q1⟩ => ?_)
 refine wpAny_Slice (thn (hl pins s1 σ H1 _ I1 q1) fun vl s2 ⟨l, H2, I2, pl, q2⟩ => thn (hu pins s2 σ H2 _ I2 q2) fun vu s3 ⟨u, H3, I3, pu, q3⟩ => ?_)
 rw [evalPart_none]
 refine wpAny_pure ?_
 have I4 : Inv X pins σ H3 { s3 with heap := s3.heap.push { cls := .type "slice", data := .fields #[vl, vu, .none] } } := I3.kept (t' := s3.toks) fun b ob q => Heap.get?_push_of_some _ q
 obtain ⟨T, id, hT, ht, hg⟩ := hr pins { s3 with heap := s3.heap.push { cls := .type "slice", data := .fields #[vl, vu, .none] } } σ H3 x v vl vu l u s3.heap.objs.size Q I4 r1 (Heap.IsSliceOf.new ..) pl pu q3
 show wpAny (model X.prog X.w) X.A (subscriptTail e (.Slice lo hi none p2) v (.ref s3.heap.objs.size)) (EP X pins σ Q) X.xe { s3 with heap := s3.heap.push { cls := .type "slice", data := .fields #[vl, vu, .none] } }
 exact tail_any (ops := [.ref s3.heap.objs.size, v]) ht hT hg (by with_unfolding_all rfl)
noncomputable def MR (xs : List V) (lo hi : Option Int) : List V := (xs.drop (HT.sIx xs.length 0 lo)).take (HT.sIx xs.length xs.length hi - HT.sIx xs.length 0 lo)
theorem W3 (xs : List V) (lo hi : Option Int) : (MR xs lo hi).length ≤ xs.length := by
 unfold MR
 rw [List.length_take, List.length_drop]
 omega
noncomputable def Ze2 (K : PySem.W.Frag) : V → Option Int → Option Int → Hp → VK → Prop := fun x lo hi H Q => ∃ a xs, x = .ref a ∧ SqT K H a xs ∧
 ¬ (HT.sIx xs.length 0 lo = 0 ∧ HT.sIx xs.length xs.length hi = xs.length) ∧ ∀ p, H p = none → Q (.ref p) (upd H p (.tup (MR xs lo hi)))
theorem RR : SlR X (Ze2 X.K) := by
 intro pins s σ H x v vl vu lo hi sl Q I rx hs pl pu h
 obtain ⟨a, xs, rfl, hx, hw, q⟩ := h
 cases rx
 obtain ⟨its, r, ht, hz⟩ := I.tuple hx
 have hlen : its.toArray.size = xs.length := by rw [List.size_toArray]; exact r.length.symm
 refine ⟨"tuple", _, PyProof.Rows.slot_tuple_getitem.lookup, ht.typeIs, ?_⟩
 refine HT.VI ht hs pl pu (by rw [hlen]; exact hw) ?_ (by rw [hlen]; exact hz)
 rw [hlen]
 refine ⟨.ref s.heap.objs.size, _, I.laid (t' := s.toks) (o := .tup (MR xs lo hi)) (fun b ob q => Heap.get?_push_of_some _ q) (Nat.le_refl _) ?_, rfl, q _ (I.hok.fresh (Nat.le_refl _))⟩
 exact ⟨Nat.le_trans (W3 xs lo hi) hz, _, (r.drop (HT.sIx xs.length 0 lo)).take (HT.sIx xs.length xs.length hi - HT.sIx xs.length 0 lo), IsTup.new _ _⟩
noncomputable def Zgk (K : PySem.W.Frag) : R2 := fun x y H Q => ∃ a b ns ms, x = .ref a ∧ y = .ref b ∧ SqT K H a (ns.map V.int) ∧ SqT K H b (ms.map V.int) ∧ Q (.bl (HT.lexLt ns ms)) H
noncomputable def Zbj (K : PySem.W.Frag) : R2 := fun x y H Q => ∃ a b xs ys, x = .ref a ∧ y = .ref b ∧ SqT K H a xs ∧ SqT K H b ys ∧ xs ≠ [] ∧ xs.length + ys.length ≤ sizeLine ∧
 (ys = [] → Q (.ref a) H) ∧ (ys ≠ [] → ∀ p, H p = none → Q (.ref p) (upd H p (.tup (xs ++ ys))))
theorem Vals.XB {xs : List V} {us : List Value} (r : Vals xs us) : us = [] ↔ xs = [] := by
 cases r with
 | nil => simp
 | cons _ _ => simp
theorem OH : OpR X (binaryOp .Add) (Zbj X.K) := by
 intro pins s σ H x y v u Q I rx ry h
 obtain ⟨a, b, xs, ys, rfl, rfl, ha, hb, hx, hz, q1, q2⟩ := h
 cases rx
 cases ry
 obtain ⟨its, r1, p1, _⟩ := I.tuple ha
 obtain ⟨its2, r2, p2, _⟩ := I.tuple hb
 refine HT.Ot p1 p2 (fun z => hx (r1.XB.mp z)) (fun z => ⟨.ref a, H, I, rfl, q1 (r2.XB.mp z)⟩) (fun z => ?_) (by rw [← r1.length, ← r2.length]; exact hz)
 refine ⟨.ref s.heap.objs.size, _, I.laid (t' := s.toks) (o := .tup (xs ++ ys)) (fun b ob q => Heap.get?_push_of_some _ q) (Nat.le_refl _) ?_, rfl, q2 (fun w => z (r2.XB.mpr w)) _ (I.hok.fresh (Nat.le_refl _))⟩
 exact ⟨by rw [List.length_append]; exact hz, _, r1.append r2, IsTup.new _ _⟩
end
end L2
namespace L2
open PySem PySem.Spec PyProof.Rows
noncomputable def ixN (n : Nat) (i : Int) : Option Nat := if 0 ≤ i then (if i < n then some i.toNat else none) else if -(n : Int) ≤ i then some (i + n).toNat else none
noncomputable def atI {α : Type} (xs : List α) (i : Int) : Option α := (ixN xs.length i).bind fun j => xs[j]?
theorem B9 {n : Nat} {i : Int} {j : Nat} (h : ixN n i = some j) : seqIndex? i n = some j ∧ j < n ∧ -(n : Int) ≤ i ∧ i < n := by
 unfold ixN at h
 by_cases h0 : 0 ≤ i
 ·rw [if_pos h0] at h
  by_cases h1 : i < n
  ·rw [if_pos h1] at h
   have e : i.toNat = j := Option.some.inj h
   exact ⟨by rw [seqIndex_of h0 h1, e], by omega, by omega, h1⟩
  ·rw [if_neg h1] at h; cases h
 ·rw [if_neg h0] at h
  by_cases h1 : -(n : Int) ≤ i
  ·rw [if_pos h1] at h
   have e : (i + n).toNat = j := Option.some.inj h
   exact ⟨by rw [seqIndex_neg (by omega) h1, e], by omega, h1, by omega⟩
  ·rw [if_neg h1] at h; cases h
theorem Um {α : Type} {xs : List α} {i : Int} {v : α} (h : atI xs i = some v) : ∃ j, seqIndex? i xs.length = some j ∧ xs[j]? = some v ∧ j < xs.length ∧ -(xs.length : Int) ≤ i ∧ i < xs.length := by
 unfold atI at h
 cases e : ixN xs.length i with
 | none => rw [e] at h; cases h
 | some j =>
  rw [e] at h
  obtain ⟨h1, h2, h3, h4⟩ := B9 e
  exact ⟨j, h1, h, h2, h3, h4⟩
theorem Jx {α : Type} {xs : List α} {j : Nat} {v : α} (h : xs[j]? = some v) : atI xs (j : Int) = some v := by
 have hj : j < xs.length := (List.getElem?_eq_some_iff.mp h).1
 have e : ixN xs.length (j : Int) = some j := by
  unfold ixN
  rw [if_pos (by omega), if_pos (by omega)]; simp
 unfold atI; rw [e]; exact h
noncomputable def CW (b : Expr) : Prop := ∀ o i, subscripted b false o i = operate [o, i] (getItem o i)
noncomputable def IxR (X : Cx) (r : R2) : Prop :=
 ∀ (value slice : Expr) (pins : List (Addr × Obj)) (s : Shared) (σ : St) (H : Hp) (x y : V) (v u : Value) (Q : VK), Inv X pins σ H s → RelV x v → RelV y u → r x y H Q →
  subscripted slice false v u = operate [v, u] (getItem v u) → wpAny (model X.prog X.w) X.A (subscriptTail value slice v u) (EP X pins σ Q) X.xe s
noncomputable def MtR (X : Cx) (id : String) (r : V → List V → Hp → VK → Prop) : Prop :=
 ∀ (pins : List (Addr × Obj)) (s : Shared) (σ : St) (H : Hp) (x : V) (xs : List V) (v : Value) (us : List Value) (Q : VK), Inv X pins σ H s → RelV x v → Vals xs us → r x xs H Q →
  wpAny (model X.prog X.w) X.A (call (.builtin id) (v :: us)) (EP X pins σ Q) X.xe s
section
variable {X : Cx} {a b : Expr} {ta tb : TE} {pos : Pos}
theorem IxR.or {r r' : R2} (h : IxR X r) (h' : IxR X r') : IxR X (fun x y H Q => r x y H Q ∨ r' x y H Q) := by
 intro value slice pins s σ H x y v u Q I rx ry q hs
 rcases q with q | q
 ·exact h value slice pins s σ H x y v u Q I rx ry q hs
 ·exact h' value slice pins s σ H x y v u Q I rx ry q hs
theorem MtR.or {id : String} {r r' : V → List V → Hp → VK → Prop} (h : MtR X id r) (h' : MtR X id r') : MtR X id (fun x xs H Q => r x xs H Q ∨ r' x xs H Q) := by
 intro pins s σ H x xs v us Q I rx rs q
 rcases q with q | q
 ·exact h pins s σ H x xs v us Q I rx rs q
 ·exact h' pins s σ H x xs v us Q I rx rs q
theorem Zcg {r : R2} (hr : IxR X r) (ha : PE X a ta) (hb : PE X b tb) (hs : CW b) : PE X (.Subscript a b pos) (tOp r ta tb) := by
 intro pins s σ H Q I h
 exact Subscript_ (ZcF ha hb I h fun v u s2 x y H2 I2 rx ry q => hr a b pins s2 σ H2 x y v u Q I2 rx ry q (hs _ _))
noncomputable def ZdU (K : PySem.W.Frag) : R2 := fun x y H Q => ∃ p xs i v, x = .ref p ∧ y = .int i ∧ SqL K H p xs ∧ atI xs i = some v ∧ Q v H
noncomputable def Zdz (K : PySem.W.Frag) : R2 := fun x y H Q => ∃ p xs i v, x = .ref p ∧ y = .int i ∧ SqT K H p xs ∧ atI xs i = some v ∧ Q v H
noncomputable def ZdJ : R2 := fun x y H Q => ∃ z i c, x = .str z ∧ y = .int i ∧ z.length ≤ sizeLine ∧ atI z.cps.toList i = some c ∧ Q (.str ⟨#[c]⟩) H
theorem Om : IxR X (ZdU X.K) := by
 intro value slice pins s σ H x y v u Q I rx ry h hs
 obtain ⟨p, xs, i, z, rfl, rfl, hq, he, q⟩ := h
 cases rx
 obtain ⟨t, rfl⟩ := ry
 obtain ⟨its, r, pl, hz⟩ := I.list hq
 obtain ⟨j, h1, h2, h3, h4, h5⟩ := Um he
 obtain ⟨w, ew, rw'⟩ := r.get h2
 have hl := r.length
 have hn := Xa
 have fin : EP X pins σ Q w s := ⟨z, H, I, rw', q⟩
 by_cases h0 : 0 ≤ i
 ·have hj : i.toNat = j := by
   rw [seqIndex_of h0 h5] at h1
   exact Option.some.inj h1
  exact item_listR pl.isList h0 (by omega) (by rw [hj]; simpa using ew) fin hs
 ·have hj : (i + (its.toArray.size : Int)).toNat = j := by
   rw [seqIndex_neg (by omega) h4] at h1
   rw [List.size_toArray, ← hl]
   exact Option.some.inj h1
  exact subscriptTail_builtinR (x := w) pl.isList.typeIs slot_list_getitem.lookup
   (wpAny_getItem_list_neg (Q := fun r s' => r = w ∧ EP X pins σ Q r s') pl.isList (by omega) (by rw [List.size_toArray] <;> omega) (by omega) (by rw [hj]; simpa using ew) ⟨rfl, fin⟩) hs
theorem R9 : IxR X (Zdz X.K) := by
 intro value slice pins s σ H x y v u Q I rx ry h hs
 obtain ⟨p, xs, i, z, rfl, rfl, hq, he, q⟩ := h
 cases rx
 obtain ⟨t, rfl⟩ := ry
 obtain ⟨its, r, pl, hz⟩ := I.tuple hq
 obtain ⟨j, h1, h2, h3, h4, h5⟩ := Um he
 obtain ⟨w, ew, rw'⟩ := r.get h2
 have hl := r.length
 have hn := Xa
 have fin : EP X pins σ Q w s := ⟨z, H, I, rw', q⟩
 exact subscriptTail_builtinR (x := w) pl.typeIs slot_tuple_getitem.lookup
  (getItem_tuple (j := j) (Q := fun r s' => r = w ∧ EP X pins σ Q r s') pl (by omega) (by omega) (by rw [List.size_toArray, ← hl]; exact h1) (by simpa using ew) ⟨rfl, fin⟩) hs
theorem SG : IxR X ZdJ := by
 intro value slice pins s σ H x y v u Q I rx ry h hs
 obtain ⟨z, i, c, rfl, rfl, hz, he, q⟩ := h
 obtain ⟨t, rfl⟩ := rx
 obtain ⟨t', rfl⟩ := ry
 obtain ⟨j, h1, h2, h3, h4, h5⟩ := Um he
 have hl : z.cps.toList.length = z.length := by simp [Str.length]
 rw [hl] at h1 h4 h5
 have hn := Xa
 exact tail_any (typeIs_str s z t) slot_str_getitem.lookup (getItem_str (c := c) (by
  have e1 : decide (i < -(2 ^ 63 : Int)) = false := decide_eq_false (by omega)
  have e2 : decide (i ≥ 2 ^ 63) = false := decide_eq_false (by omega)
  rw [e1, e2, Bool.or_false]) (by rw [h1]; simpa using h2) ⟨.str ⟨#[c]⟩, H, I.tok _, ⟨_, rfl⟩, q⟩) hs
noncomputable def rIx (K : PySem.W.Frag) : R2 := fun x y H Q => ZdU K x y H Q ∨ Zdz K x y H Q ∨ ZdJ x y H Q
theorem Zal : IxR X (rIx X.K) := Om.or (R9.or SG)
theorem Bp (its : List Value) (n j : Nat) (u : Value) : Obj.mapSeq (·.setIfInBounds j u) { cls := .type "list", data := .seq its.toArray n } = { cls := .type "list", data := .seq (its.set j u).toArray n } := by
 simp [Obj.mapSeq]
theorem Inv.lst {pins : List (Addr × Obj)} {σ : St} {H : Hp} {s : Shared} {p : Addr} {xs : List V} (I : Inv X pins σ H s) (h : H p = some (.lst xs)) :
  ∃ (its : List Value) (n : Nat), Vals xs its ∧ s.heap.get? p = some { cls := .type "list", data := .seq its.toArray n } ∧ xs.length ≤ sizeLine := by
 obtain ⟨z, its, n, r, e⟩ := I.hok p _ h
 exact ⟨its, n, r, e, z⟩
theorem Inv.TQ {pins : List (Addr × Obj)} {σ : St} {H : Hp} {s : Shared} {p : Addr} {xs ys : List V} {its its' : List Value} {n n' : Nat} {f : Obj → Obj} (I : Inv X pins σ H s) (h : H p = some (.lst xs))
  (ho : s.heap.get? p = some { cls := .type "list", data := .seq its.toArray n }) (hf : f { cls := .type "list", data := .seq its.toArray n } = { cls := .type "list", data := .seq its'.toArray n' }) (r : Vals ys its') (hz : ys.length ≤ sizeLine) (t : Nat) :
  Inv X pins σ (upd H p (.lst ys)) { s with heap := s.heap.update p f, toks := t } := by
 have e : (s.heap.update p f).get? p = some { cls := .type "list", data := .seq its'.toArray n' } := by
  rw [Heap.get?_update_self f ho (by rw [hf] <;> rfl), hf]
 refine I.write (x := p) (e := p) (by rw [h]; trivial) (.inl rfl) (fun b u hb q => (Heap.get?_update_other _ _ (Ne.symm hb)).trans q) ⟨_, e⟩ ?_
 exact ⟨hz, its', n', r, e⟩
noncomputable def ZaW : V → V → V → Hp → (Hp → Prop) → Prop := fun o i v H Q => ∃ p xs k j, o = .ref p ∧ i = .int k ∧ H p = some (.lst xs) ∧ ixN xs.length k = some j ∧ Q (upd H p (.lst (xs.set j v)))
theorem set_list : Zd1 X ZaW := by
 intro pins s σ H o i v ov iv u Q I ro ri rv h
 obtain ⟨p, xs, k, j, rfl, rfl, hp, hj, q⟩ := h
 cases ro
 obtain ⟨t, rfl⟩ := ri
 obtain ⟨its, n, r, ho, hz⟩ := I.lst hp
 obtain ⟨h1, h2, h3, h4⟩ := B9 hj
 have hl := r.length
 have hn := Xa
 have I' : Inv X pins σ (upd H p (.lst (xs.set j v))) { s with heap := s.heap.update p (Obj.mapSeq (·.setIfInBounds j u)) } :=
  I.TQ hp ho (Bp its n j u) (r.set rv j) (by rw [List.length_set]; exact hz) s.toks
 by_cases h0 : 0 ≤ k
 ·have hk : k.toNat = j := by
   rw [seqIndex_of h0 h4] at h1
   exact Option.some.inj h1
  exact PySem.W.ki_setAt ho h0 (by omega) (by rw [List.size_toArray, ← hl]; exact h4) (by rw [hk]; exact ⟨_, I', q⟩)
 ·have hk : (k + (its.toArray.size : Int)).toNat = j := by
   rw [seqIndex_neg (by omega) h3] at h1
   rw [List.size_toArray, ← hl]
   exact Option.some.inj h1
  exact PySem.W.ki_setBack ho (by omega) (by rw [List.size_toArray, ← hl]; exact h3) (by omega) (by rw [hk]; exact ⟨_, I', q⟩)
noncomputable def ZfB (K : PySem.W.Frag) : V → Option Int → Option Int → Hp → VK → Prop := fun x lo hi H Q => ∃ a xs, x = .ref a ∧ SqL K H a xs ∧ ∀ p, H p = none → Q (.ref p) (upd H p (.lst (MR xs lo hi)))
noncomputable def S6 : V → Bool
 | .non => true
 | .bl _ => true
 | .int _ => true
 | .str _ => true
 | _ => false
noncomputable def eqV : V → V → Bool
 | .non, .non => true
 | .bl a, .bl b => a == b
 | .bl a, .int b => (if a then 1 else 0) == b
 | .int a, .bl b => a == (if b then 1 else 0)
 | .int a, .int b => a == b
 | .str a, .str b => a == b
 | _, _ => false
noncomputable def eqU (x : V) (u : Value) : Bool := match u with
 | .none => eqV .non x
 | .bool b => eqV (.bl b) x
 | .int i _ => eqV (.int i) x
 | .str z _ => eqV (.str z) x
 | _ => false
noncomputable def inV (x : V) (xs : List V) : Bool := xs.any fun y => eqV y x
noncomputable def rIn (K : PySem.W.Frag) (neg : Bool) : R2 := fun x y H Q => ∃ p xs, y = .ref p ∧ (SqL K H p xs ∨ SqT K H p xs) ∧ S6 x = true ∧ xs.all S6 = true ∧ Q (.bl (if neg then !inV x xs else inV x xs)) H
theorem KL : QO X (.builtin "len") (fun xs H Q => ∃ p ys, xs = [.ref p] ∧ (SqL X.K H p ys ∨ SqT X.K H p ys) ∧ Q (.int ys.length) H) := by
 intro pins s σ H xs us Q I r h
 obtain ⟨p, ys, rfl, hq, q⟩ := h
 obtain ⟨u, rfl, rx⟩ := vals1 r
 cases rx
 have hn := Xa
 rcases hq with hq | hq
 ·obtain ⟨its, r', pl, hz⟩ := I.list hq
  have hlen := r'.length
  exact Calls.call_len_list pl.isList (by simp only [List.size_toArray] <;> omega) ⟨.int ys.length, H, I.tok _, ⟨s.toks + 1, by rw [List.size_toArray, hlen]⟩, q⟩
 ·obtain ⟨its, r', pl, hz⟩ := I.tuple hq
  have hlen := r'.length
  exact len_tuple pl (by simp only [List.size_toArray] <;> omega) ⟨.int ys.length, H, I.tok _, ⟨s.toks + 1, by rw [List.size_toArray, hlen]⟩, q⟩
theorem KY : QO X (.builtin "len") (fun xs H Q => ∃ z, xs = [.str z] ∧ z.length ≤ sizeLine ∧ Q (.int z.length) H) := by
 intro pins s σ H xs us Q I r h
 obtain ⟨z, rfl, hz, q⟩ := h
 obtain ⟨u, rfl, t, rfl⟩ := vals1 r
 have hn := Xa
 exact len_str (by omega) ⟨.int z.length, H, I.tok _, ⟨_, rfl⟩, q⟩
theorem QO.or {f : Value} {r r' : List V → Hp → VK → Prop} (h : QO X f r) (h' : QO X f r') : QO X f (fun xs H Q => r xs H Q ∨ r' xs H Q) := by
 intro pins s σ H xs us Q I rs q
 rcases q with q | q
 ·exact h pins s σ H xs us Q I rs q
 ·exact h' pins s σ H xs us Q I rs q
theorem VL : QO X (.type "list") (fun xs H Q => ∃ p ys, xs = [.ref p] ∧ (SqL X.K H p ys ∨ SqT X.K H p ys) ∧ ∀ l, H l = none → Q (.ref l) (upd H l (.lst ys))) := by
 intro pins s σ H xs us Q I r h
 obtain ⟨p, ys, rfl, hq, q⟩ := h
 obtain ⟨u, rfl, rx⟩ := vals1 r
 cases rx
 have fin : ∀ (its : List Value), Vals ys its → ys.length ≤ sizeLine → ∀ (h' : Heap) (c' : Nat), (∀ b o', s.heap.get? b = some o' → h'.get? b = some o') →
   h'.get? s.heap.objs.size = some { cls := .type "list", dict := none, data := .seq its.toArray c', slots := #[] } → EP X pins σ Q (.ref s.heap.objs.size) { s with heap := h' } := fun its r' hz h' c' kp e =>
  ⟨.ref s.heap.objs.size, _, I.laid (t' := s.toks) kp (Nat.le_refl _) (show Qb X.prog X.w _ h' _ (.lst ys) from ⟨hz, its, c', r', e⟩), rfl, q _ (I.hok.fresh (Nat.le_refl _))⟩
 rcases hq with hq | hq
 ·obtain ⟨its, r', pl, hz⟩ := I.list hq
  have hlen := r'.length
  obtain ⟨o, ho, hc, n, hd⟩ := pl.isList
  exact call_list_seq p (.inl rfl) ho hc hd (fun h' c' kp e => fin its r' hz h' c' kp e) (by simp only [List.size_toArray] <;> omega)
 ·obtain ⟨its, r', pl, hz⟩ := I.tuple hq
  have hlen := r'.length
  obtain ⟨o, ho, hc, n, hd⟩ := pl
  exact call_list_seq p (.inr rfl) ho hc hd (fun h' c' kp e => fin its r' hz h' c' kp e) (by simp only [List.size_toArray] <;> omega)
theorem Kd : QO X (.type "tuple") (fun xs H Q => ∃ p ys, xs = [.ref p] ∧ ((SqL X.K H p ys ∧ ∀ l, H l = none → Q (.ref l) (upd H l (.tup ys))) ∨ (SqT X.K H p ys ∧ Q (.ref p) H))) := by
 intro pins s σ H xs us Q I r h
 obtain ⟨p, ys, rfl, h⟩ := h
 obtain ⟨u, rfl, rx⟩ := vals1 r
 cases rx
 rcases h with ⟨hq, q⟩ | ⟨hq, q⟩
 ·obtain ⟨its, r', pl, hz⟩ := I.list hq
  have hlen := r'.length
  refine call_tuple_list pl.isList (fun h' kp => ?_) (by simp only [List.size_toArray] <;> omega)
  have I1 : Inv X pins σ H { s with heap := h' } := I.kept (t' := s.toks) kp
  have I2 : Inv X pins σ (upd H h'.objs.size (.tup ys)) { s with heap := h'.push { cls := .type "tuple", data := .seq its.toArray } } :=
   I1.laid (t' := s.toks) (fun b o e => Heap.get?_push_of_some _ e) (Nat.le_refl _) (show Qb X.prog X.w _ _ _ (.tup ys) from ⟨hz, its, r', IsTup.new _ _⟩)
  exact ⟨.ref h'.objs.size, _, I2, rfl, q _ (I1.hok.fresh (Nat.le_refl _))⟩
 ·obtain ⟨its, r', pl, hz⟩ := I.tuple hq
  exact call_tuple_same pl ⟨.ref p, H, I, rfl, q⟩
noncomputable def tyV (K : PySem.W.Frag) (T : String) (x : V) (H : Hp) : Prop := match x with
 | .str _ => T = "str"
 | .int _ => T = "int"
 | .ref p => (T = "list" ∧ ∃ xs, SqL K H p xs) ∨ (T = "tuple" ∧ ∃ o, K.lookup p = some o ∧ o.cls = .type "tuple" ∧ o.dict = none) ∨
   (T = "dict" ∧ ((∃ kvs, H p = some (.dK kvs)) ∨ ∃ kvs, H p = some (.dT kvs))) ∨ (T = "set" ∧ ∃ S n, H p = some (.set S n))
 | _ => False
theorem Sm {pins : List (Addr × Obj)} {σ : St} {H : Hp} {s : Shared} {T : String} {x : V} {v : Value} (I : Inv X pins σ H s) (r : RelV x v) (ty : tyV X.K T x H) :
  s.TypeIs v T ∧ ∀ a, v = .ref a → ∃ ob, s.heap.get? a = some ob ∧ ob.dict = none := by
 cases x with
 | str z =>
  obtain ⟨t, rfl⟩ := r
  cases (show T = "str" from ty)
  exact ⟨typeIs_str s z t, fun _ e => nomatch e⟩
 | int i =>
  obtain ⟨t, rfl⟩ := r
  cases (show T = "int" from ty)
  exact ⟨typeIs_int s i t, fun _ e => nomatch e⟩
 | ref p =>
  cases r
  rcases ty with ⟨rfl, xs, hq⟩ | ⟨rfl, o, hk, hc, hd⟩ | ⟨rfl, hk⟩ | ⟨rfl, S, n, hk⟩
  ·obtain ⟨its, _, pl, _⟩ := I.list hq
   refine ⟨pl.isList.typeIs, fun a e => ?_⟩
   cases e
   obtain ⟨o, n, e, c, hd, _⟩ := pl
   exact ⟨o, e, hd⟩
  ·refine ⟨⟨o, I.kIn p o hk, hc⟩, fun a e => ?_⟩
   cases e
   exact ⟨o, I.kIn _ o hk, hd⟩
  ·have z : ∃ o, s.heap.get? p = some o ∧ o.ExactDict := by
    rcases hk with ⟨kvs, hk⟩ | ⟨kvs, hk⟩
    ·obtain ⟨_, _, _, _, o, _, _, e, ex, _⟩ := I.hok p _ hk
     exact ⟨o, e, ex⟩
    ·obtain ⟨_, _, _, _, o, _, _, e, ex, _⟩ := I.hok p _ hk
     exact ⟨o, e, ex⟩
   obtain ⟨o, e, ex⟩ := z
   refine ⟨⟨o, e, ex.1⟩, fun a e2 => ?_⟩
   cases e2
   exact ⟨o, e, ex.2.1⟩
  ·obtain ⟨o, _, _, _, e, ex, _⟩ := I.hok p _ hk
   refine ⟨⟨o, e, ex.1⟩, fun a e2 => ?_⟩
   cases e2
   exact ⟨o, e, ex.2.1⟩
 | _ => exact False.elim ty
noncomputable def Zf8 (K : PySem.W.Frag) (T : String) (r : V → List V → Hp → VK → Prop) (to : TE) : TE := fun σ H Q => to σ H fun x H1 => tyV K T x H1 ∧ r x [] H1 Q
noncomputable def tBM (K : PySem.W.Frag) (T : String) (r : V → List V → Hp → VK → Prop) (to : TE) (t : TA) : TE := fun σ H Q => to σ H fun x H1 => tyV K T x H1 ∧ t σ H1 fun xs H2 => r x xs H2 Q
variable {o e : Expr} {es : List Expr} {to : TE} {t : TA} {name : Str} {apos cpos : Pos} {T id : String} {r : V → List V → Hp → VK → Prop}
theorem ZbI (pa : PlainAttrs T) (slot : Slot T name id) (hty : typeOf (.builtin id) = pure (.type "method_descriptor")) (hm : MtR X id r) (ho : PE X o to) (ha : PA X (e :: es) t)
  (hbase : attributeBase o name X.env (eval o X.env) = eval o X.env := by rfl)
  (hfew : ((backTo cpos (starEach (e :: es) X.env)).all (fun x => !x.1) && (backToKw cpos (keywordEach [] X.env)).all (fun x => x.1.isSome)
   && decide ((e :: es).length + ([] : List Keyword).length + (if ([] : List Keyword).isEmpty then 0 else 1) < 30)) = true := by rfl)
  (hline : (apos.endLine == cpos.line) = true := by rfl) (hs : starEach (e :: es) X.env = (false, eval e X.env) :: starEach es X.env := by rfl) (hplain : (backTo cpos (starEach es X.env)).any (·.1) = false := by rfl) :
  PE X (.Call (.Attribute o name apos) (e :: es) [] cpos) (tBM X.K T r to t) := by
 intro pins s σ H Q I h
 refine wpAny_Call_method_late hbase hfew hline rfl (thn (ho pins s σ H _ I h) fun v s1 ⟨x, H1, I1, r1, ty, q1⟩ => ?_)
 obtain ⟨h1, h2⟩ := Sm I1 r1 ty
 refine ⟨T, id, pa, slot, hty, h1, h2, ?_⟩
 have hA := ha cpos pins s1 σ H1 _ I1 q1
 rw [hs] at hA ⊢
 refine Calls.callWith_builtin (by show (false || (backTo cpos (starEach es X.env)).any (·.1)) = false; rw [hplain] <;> rfl) (Calls.evalArgs_plain ?_)
 exact thn hA fun us s2 ⟨vs, H2, I2, r2, q2⟩ => hm pins s2 σ H2 x vs v us Q I2 r1 r2 q2
end
end L2
namespace L2
open PySem PySem.Spec PyProof.Rows
noncomputable def MtM (X : Cx) (id : String) (r : V → List V → Hp → VK → Prop) : Prop :=
 ∀ (pins : List (Addr × Obj)) (s : Shared) (σ : St) (H : Hp) (x : V) (xs : List V) (v : Value) (us : List Value) (Q : VK), Inv X pins σ H s → RelV x v → Vals xs us → r x xs H Q →
  wpAny (model X.prog X.w) X.A (call (.builtin id) (v :: us)) (EP X pins σ Q) X.xe s
theorem Vals.one : ∀ {x : V} {us : List Value}, Vals [x] us → ∃ u, us = [u] ∧ RelV x u
 | _, _, .cons r .nil => ⟨_, rfl, r⟩
theorem Vals.two : ∀ {x y : V} {us : List Value}, Vals [x, y] us → ∃ u v, us = [u, v] ∧ RelV x u ∧ RelV y v
 | _, _, _, .cons r (.cons q .nil) => ⟨_, _, rfl, r, q⟩
theorem Vals.zero : ∀ {us : List Value}, Vals [] us → us = []
 | _, .nil => rfl
theorem Vals.rep {xs : List V} {us : List Value} (h : Vals xs us) : ∀ k : Nat, Vals (List.replicate k xs).flatten (List.replicate k us).flatten
 | 0 => .nil
 | k + 1 => by
  rw [List.replicate_succ, List.replicate_succ, List.flatten_cons, List.flatten_cons]
  exact Vals.append h (Vals.rep h k)
theorem foldl_rep (its : List Value) : ∀ (k : Nat) (acc : List Value),
  List.foldl (fun x1 x2 => x1 ++ x2) acc.toArray (List.replicate k its.toArray) = (acc ++ (List.replicate k its).flatten).toArray
 | 0, acc => by simp
 | k + 1, acc => by
  have e : acc.toArray ++ its.toArray = (acc ++ its).toArray := by simp
  have e2 : (acc ++ its) ++ (List.replicate k its).flatten = acc ++ (List.replicate (k + 1) its).flatten := by
   rw [List.replicate_succ, List.flatten_cons, List.append_assoc]
  rw [← e2, ← foldl_rep its k (acc ++ its), ← e, List.replicate_succ, List.foldl_cons]
section
variable {X : Cx} {pins : List (Addr × Obj)} {σ : St} {H : Hp} {s : Shared} {l b : Addr} {xs ys zs : List V}
theorem Inv.Zef {its its' : List Value} {n : Nat} {f : Array Value → Array Value} {t' : Nat} (I : Inv X pins σ H s) (hH : H l = some (.lst xs))
  (e : s.heap.get? l = some { cls := .type "list", data := .seq its.toArray n }) (hf : f its.toArray = its'.toArray) (hv : Vals ys its') (hz : ys.length ≤ sizeLine) :
  Inv X pins σ (upd H l (.lst ys)) { s with heap := s.heap.update l (Obj.mapSeq f), toks := t' } := by
 have q := PySem.IsL.update e f
 rw [hf] at q
 refine I.write (x := l) (e := l) (by rw [hH]; exact trivial) (.inl rfl) (fun b' u hb hu => (Heap.get?_update_other s.heap (Obj.mapSeq f) (Ne.symm hb)).trans hu) ⟨_, q⟩ ?_
 exact ⟨hz, its', _, hv, q⟩
theorem Inv.ZcZ {its : List Value} {t' : Nat} (I : Inv X pins σ H s) (hv : Vals ys its) (hz : ys.length ≤ sizeLine) :
  Inv X pins σ (upd H s.heap.objs.size (.lst ys)) { s with heap := s.heap.push { cls := .type "list", data := .seq its.toArray }, toks := t' } :=
 I.laid (fun _ _ q => Heap.get?_push_of_some _ q) (Nat.le_refl _) ⟨hz, its, 0, hv, Heap.get?_push_size _ rfl⟩
theorem Inv.fresh (I : Inv X pins σ H s) : H s.heap.objs.size = none := I.hok.fresh (Nat.le_refl _)
theorem Inv.Zdx (I : Inv X pins σ H s) (hH : H l = some (.lst xs)) : xs.length ≤ sizeLine ∧ ∃ (its : List Value) (n : Nat), Vals xs its ∧ xs.length = its.length ∧ s.heap.get? l = some { cls := .type "list", data := .seq its.toArray n } := by
 obtain ⟨z, its, n, r, e⟩ := I.hok l _ hH
 exact ⟨z, its, n, r, r.length, e⟩
theorem HS {n : Nat} (h : n ≤ sizeLine) : Builtin.List.listTooLong n = false := by
 unfold Builtin.List.listTooLong
 exact decide_eq_false (by omega)
end
section
variable {X : Cx}
noncomputable def Pf : V → List V → Hp → VK → Prop := fun x vs H Q => ∃ l xs y, x = .ref l ∧ vs = [y] ∧ H l = some (.lst xs) ∧ xs.length < sizeLine ∧ Q .non (upd H l (.lst (xs ++ [y])))
theorem B3 : MtM X "list.append" Pf := by
 intro pins s σ H x vs v us Q I rx rv h
 obtain ⟨l, xs, y, rfl, rfl, hH, hz, q⟩ := h
 cases rx
 obtain ⟨u, rfl, ru⟩ := rv.one
 obtain ⟨z, its, n, r, hl, e⟩ := I.Zdx hH
 refine call_meets F.slot_list_append ⟨_, e, rfl⟩ F.entry_list_append (F.args_list_append_2 _ _) (PySem.list_append l its.toArray n u (by rw [List.size_toArray]; omega)) ⟨e, ?_⟩
 refine ⟨.non, _, I.Zef (its' := its ++ [u]) hH e (by simp) (r.append (.cons ru .nil)) ?_, rfl, q⟩
 rw [List.length_append, List.length_singleton]
 omega
noncomputable def Zbe : V → List V → Hp → VK → Prop := fun x vs H Q => ∃ l b xs zs, x = .ref l ∧ vs = [.ref b] ∧ H l = some (.lst xs) ∧ H b = some (.lst zs) ∧ xs.length + zs.length ≤ sizeLine ∧ Q .non (upd H l (.lst (xs ++ zs)))
noncomputable def ZfR : V → List V → Hp → VK → Prop := fun x vs H Q => ∃ l xs y, x = .ref l ∧ vs = [] ∧ H l = some (.lst xs) ∧ xs[xs.length - 1]? = some y ∧ Q y (upd H l (.lst xs.dropLast))
noncomputable def Zc8 : V → List V → Hp → VK → Prop := fun x vs H Q => ∃ l xs i k y, x = .ref l ∧ vs = [.int i] ∧ H l = some (.lst xs) ∧ -(2 ^ 63) ≤ i ∧ i < 2 ^ 63 ∧ seqIndex? i xs.length = some k ∧ xs[k]? = some y ∧ Q y (upd H l (.lst (xs.eraseIdx k)))
noncomputable def ZaG : V → List V → Hp → VK → Prop := fun x vs H Q => ∃ l xs, x = .ref l ∧ vs = [] ∧ H l = some (.lst xs) ∧ Q .non (upd H l (.lst xs.reverse))
noncomputable def Zc2 : V → List V → Hp → VK → Prop := fun x vs H Q => ∃ l xs, x = .ref l ∧ vs = [] ∧ H l = some (.lst xs) ∧ Q .non (upd H l (.lst []))
noncomputable def Zf4 : R2 := fun x y H Q => ∃ l b xs zs, x = .ref l ∧ y = .ref b ∧ H l = some (.lst xs) ∧ H b = some (.lst zs) ∧ xs.length + zs.length ≤ sizeLine ∧ ∀ p, H p = none → Q (.ref p) (upd H p (.lst (xs ++ zs)))
noncomputable def Zfe : R2 := fun x y H Q => ∃ l k xs, x = .ref l ∧ y = .int k ∧ H l = some (.lst xs) ∧ -(2 ^ 63) ≤ k ∧ k < 2 ^ 63 ∧ xs.length * k.toNat ≤ sizeLine ∧
 ∀ p, H p = none → Q (.ref p) (upd H p (.lst (List.replicate k.toNat xs).flatten))
theorem len_rep {α : Type} (xs : List α) (k : Nat) : (List.replicate k xs).flatten.length = k * xs.length := by
 induction k with
 | zero => simp
 | succ k ih => rw [List.replicate_succ, List.flatten_cons, List.length_append, ih, Nat.succ_mul, Nat.add_comm]
theorem Zag : OpR X (binaryOp .Mult) Zfe := by
 intro pins s σ H x y v u Q I rx ry h
 obtain ⟨l, k, xs, rfl, rfl, hH, h1, h2, hz, q⟩ := h
 cases rx
 obtain ⟨t, rfl⟩ := ry
 obtain ⟨z, its, n, r, hl, e⟩ := I.Zdx hH
 have hlen : its.toArray.size * k.toNat ≤ sizeLine := by rw [List.size_toArray, ← hl]; exact hz
 have hcap : ¬ its.toArray.size * k.toNat > (2 ^ 63 - 1) / 8 := by
  have : (sizeLine : Nat) ≤ (2 ^ 63 - 1) / 8 := by decide
  omega
 have hfit : ¬ (!Builtin.List.listFitsIndex k) = true := by
  rw [fitsIndex_both h1 h2]
  exact Bool.false_ne_true
 have hlong : ¬ Builtin.List.listTooLong (its.toArray.size * k.toNat) = true := by
  rw [HS hlen]
  exact Bool.false_ne_true
 have hnew : List.foldl (fun x1 x2 => x1 ++ x2) #[] (List.replicate (if its.toArray.isEmpty = true then 0 else k.toNat) its.toArray) = (List.replicate k.toNat its).flatten.toArray := by
  have f0 : ∀ m : Nat, List.foldl (fun x1 x2 => x1 ++ x2) #[] (List.replicate m its.toArray) = (List.replicate m its).flatten.toArray := fun m => by
   have := foldl_rep its m []
   rw [List.nil_append] at this
   exact this
  rw [f0]
  cases its with
  | nil => simp
  | cons a r' => rw [if_neg (by simp)]
 refine wpAny_binaryOp_repeat_ref (T := "list") (U := "int") (by decide) ⟨_, e, rfl⟩ (fun s' => typeIs_int s' k t) noFill_list_mul F.fills_int_mul F.slot_int_rmul repeat_list F.slot_int_index.lookup
  (call_meets F.slot_int_rmul (typeIs_int s k t) F.entry_int_rmul (F.args_int_rmul_2 _ _) (int___rmul___int_list k t l its.toArray n)
   ⟨e, rfl, ⟨_, e, rfl⟩, call_meets F.slot_list_mul ⟨_, e, rfl⟩ F.entry_list_mul (F.args_list_mul_2 _ _) (AutoListH.list___mul___list_int_3 l its.toArray n k t hfit hcap hlong) ⟨e, ?_⟩⟩)
 rw [hnew]
 exact ⟨.ref _, _, I.ZcZ (t' := s.toks) (r.rep k.toNat) (by rw [len_rep, Nat.mul_comm]; exact hz), rfl, q _ I.fresh⟩
end
section
variable {prog : Program} {w : World} {A : Around} {E : Value → Shared → Prop} {s : Shared}
set_option maxRecDepth 100000 in
end
section
variable {X : Cx}
end
end L2
namespace L2
open PySem PySem.Spec PyProof.Rows
section
variable {κ : Type} [DecidableEq κ]
noncomputable def Xh (kvs : List (κ × V)) (k : κ) : Option V := (kvs.find? fun kv => decide (kv.1 = k)).map (·.2)
noncomputable def putK (kvs : List (κ × V)) (k : κ) (v : V) : List (κ × V) :=
 if (kvs.any fun kv => decide (kv.1 = k)) = true then kvs.map (fun kv => if kv.1 = k then (kv.1, v) else kv) else kvs ++ [(k, v)]
noncomputable def B8 (kvs : List (κ × V)) (k : κ) : List (κ × V) := kvs.filter fun kv => decide (kv.1 ≠ k)
theorem Kg {p : κ × V} {r : List (κ × V)} {k : κ} (e : p.1 = k) : Xh (p :: r) k = some p.2 := by simp [Xh, List.find?_cons, e]
theorem XX {p : κ × V} {r : List (κ × V)} {k : κ} (e : ¬ p.1 = k) : Xh (p :: r) k = Xh r k := by simp [Xh, List.find?_cons, e]
theorem Gp (k : κ) : ∀ kvs : List (κ × V), (kvs.any fun kv => decide (kv.1 = k)) = (Xh kvs k).isSome
 | [] => rfl
 | p :: r => by
  rw [List.any_cons]
  by_cases e : p.1 = k
  ·simp only [Kg e, decide_eq_true e, Bool.true_or, Option.isSome_some]
  ·rw [XX e, decide_eq_false e, Bool.false_or]; exact Gp k r
theorem WR (kvs : List (κ × V)) (k : κ) (v : V) : (putK kvs k v).length ≤ kvs.length + 1 := by
 unfold putK
 split
 ·rw [List.length_map]; omega
 ·rw [List.length_append, List.length_cons, List.length_nil]; omega
theorem Pu.Eg {o : Option V} {u : Option Value} (r : Pu o u) : o.isSome = u.isSome := by
 cases o with
 | none => cases u with
  | none => rfl
  | some _ => exact (show False from r).elim
 | some _ => cases u with
  | none => exact (show False from r).elim
  | some _ => rfl
theorem KV.val {kvs : List (κ × V)} {vs : List (κ × Value)} (r : KV kvs vs) (k : κ) : Pu (Xh kvs k) (valueAt vs k) := by
 unfold KV at r
 induction r with
 | nil => exact True.intro
 | @cons p q ps qs h t ih =>
  obtain ⟨h1, h2⟩ := h
  by_cases e : p.1 = k
  ·have e' : q.1 = k := h1.symm.trans e
   have b : valueAt (q :: qs) k = some q.2 := by simp [valueAt, List.find?_cons, e']
   rw [Kg e, b]; exact h2
  ·have e' : ¬ q.1 = k := fun z => e (h1.trans z)
   have b : valueAt (q :: qs) k = valueAt qs k := by simp [valueAt, List.find?_cons, e']
   rw [XX e, b]; exact ih
theorem KV.any {kvs : List (κ × V)} {vs : List (κ × Value)} (r : KV kvs vs) (k : κ) : (kvs.any fun kv => decide (kv.1 = k)) = vs.any fun kv => decide (kv.1 = k) := by
 unfold KV at r
 induction r with
 | nil => rfl
 | cons h t ih => rw [List.any_cons, List.any_cons, ih, h.1]
theorem KV.NB {kvs : List (κ × V)} {vs : List (κ × Value)} (r : KV kvs vs) (k : κ) {y : V} {u : Value} (ry : RelV y u) :
  KV (kvs.map fun kv => if kv.1 = k then (kv.1, y) else kv) (vs.map fun kv => if kv.1 = k then (kv.1, u) else kv) := by
 unfold KV at r ⊢
 induction r with
 | nil => exact .nil
 | @cons p q ps qs h t ih =>
  rw [List.map_cons, List.map_cons]
  refine .cons ?_ ih
  obtain ⟨h1, h2⟩ := h
  by_cases e : p.1 = k
  ·rw [if_pos e, if_pos (h1.symm.trans e)]; exact ⟨h1, ry⟩
  ·rw [if_neg e, if_neg (fun z => e (h1.trans z))]; exact ⟨h1, h2⟩
theorem KV.put {kvs : List (κ × V)} {vs : List (κ × Value)} (r : KV kvs vs) (k : κ) {y : V} {u : Value} (ry : RelV y u) : KV (putK kvs k y) (stored vs k u) := by
 unfold putK stored
 rw [r.any k]
 by_cases e : (vs.any fun kv => decide (kv.1 = k)) = true
 ·rw [if_pos e, if_pos e]; exact r.NB k ry
 ·rw [if_neg e, if_neg e]; exact Paired.snoc r ⟨rfl, ry⟩
theorem KV.drop {kvs : List (κ × V)} {vs : List (κ × Value)} (r : KV kvs vs) (k : κ) : KV (B8 kvs k) (without vs k) := by
 unfold KV at r ⊢
 unfold B8 without
 induction r with
 | nil => exact .nil
 | @cons p q ps qs h t ih =>
  obtain ⟨h1, h2⟩ := h
  rw [List.filter_cons, List.filter_cons]
  by_cases e : p.1 = k
  ·have a : ¬ decide (p.1 ≠ k) = true := by simp [e]
   have b : ¬ decide (q.1 ≠ k) = true := by simp [h1.symm.trans e]
   rw [if_neg a, if_neg b]; exact ih
  ·have e' : ¬ q.1 = k := fun z => e (h1.trans z)
   have a : decide (p.1 ≠ k) = true := by simp [e]
   have b : decide (q.1 ≠ k) = true := by simp [e']
   rw [if_pos a, if_pos b]; exact .cons ⟨h1, h2⟩ ih
theorem KV.length {kvs : List (κ × V)} {vs : List (κ × Value)} (r : KV kvs vs) : kvs.length = vs.length := Paired.length r
end
theorem T5 {P : Program} {w : World} {k : Key} {u : Value} (r : RelV (kV k) u) : (Z3 P w).is k u = true := by
 cases k with
 | inl i => obtain ⟨t, e⟩ := (show ∃ t, u = Value.int i t from r); subst e; exact US P w i t
 | inr x => obtain ⟨t, e⟩ := (show ∃ t, u = Value.str x t from r); subst e; exact W8 P w x t
theorem YC {P : Program} {w : World} : ∀ {ks : List Key} {us : List Value}, Vals (ks.map kV) us → ItemsAre (Z3 P w) ks us
 | [], _, r => by rw [List.map_nil] at r; cases r; exact .nil
 | k :: ks, _, r => by
  rw [List.map_cons] at r
  cases r with
  | cons h t => exact .cons (T5 h) (YC t)
noncomputable abbrev KT (H : Hp) : List (List Key × V) → List (List Key × Addr × Value) → Prop := Paired fun p q => p.1 = q.1 ∧ H q.2.1 = some (.tup (p.1.map kV)) ∧ RelV p.2 q.2.2
theorem KT.val {H : Hp} {kvs : List (List Key × V)} {xs : List (List Key × Addr × Value)} (r : KT H kvs xs) (k : List Key) : Pu (Xh kvs k) ((atKey xs k).map (·.2)) := by
 induction r with
 | nil => exact True.intro
 | @cons p q ps qs h t ih =>
  obtain ⟨h1, _, h2⟩ := h
  by_cases e : p.1 = k
  ·have e' : q.1 = k := h1.symm.trans e
   have b : atKey (q :: qs) k = some q.2 := by simp [atKey, List.find?_cons, e']
   rw [Kg e, b]; exact h2
  ·have e' : ¬ q.1 = k := fun z => e (h1.trans z)
   have b : atKey (q :: qs) k = atKey qs k := by simp [atKey, List.find?_cons, e']
   rw [XX e, b]; exact ih
theorem KT.NB {H : Hp} {kvs : List (List Key × V)} {xs : List (List Key × Addr × Value)} (r : KT H kvs xs) (k : List Key) {y : V} {u : Value} (ry : RelV y u) :
  KT H (kvs.map fun kv => if kv.1 = k then (kv.1, y) else kv) (xs.map (putAt k u)) := by
 induction r with
 | nil => exact .nil
 | @cons p q ps qs h t ih =>
  rw [List.map_cons, List.map_cons]
  refine .cons ?_ ih
  obtain ⟨h1, h2, h3⟩ := h
  unfold putAt
  by_cases e : p.1 = k
  ·rw [if_pos e, if_pos (h1.symm.trans e)]; exact ⟨h1, h2, ry⟩
  ·rw [if_neg e, if_neg (fun z => e (h1.trans z))]; exact ⟨h1, h2, h3⟩
theorem KT.put {H : Hp} {kvs : List (List Key × V)} {xs : List (List Key × Addr × Value)} (r : KT H kvs xs) (k : List Key) {b : Addr} {y : V} {u : Value} (hb : H b = some (.tup (k.map kV))) (ry : RelV y u) :
  KT H (putK kvs k y) (storedH xs k b u) := by
 have e : (kvs.any fun kv => decide (kv.1 = k)) = (atKey xs k).isSome := by
  rw [Gp, (r.val k).Eg, Option.isSome_map]
 unfold putK storedH
 rw [e]
 by_cases q : (atKey xs k).isSome = true
 ·rw [if_pos q, if_pos q]; exact r.NB k ry
 ·rw [if_neg q, if_neg q]; exact Paired.snoc r ⟨rfl, hb, ry⟩
section
variable {P : Program} {w : World} {H : Hp} {h : Heap} {a : Addr}
theorem Pw {u : HO} (ok : HOk P w H h) (e : Rd H a u) : Qb P w H h a u := e.ok ok
theorem Zbk {kvs : List (Key × V)} (ok : HOk P w H h) (e : Rd H a (.dK kvs)) : kvs.length ≤ sizeLine ∧ (a == sysModules) = false ∧ ∃ vs, KV kvs vs ∧ h.DictOf (Z3 P w) a vs :=
 show Qb P w H h a (.dK kvs) from Pw ok e
theorem ZcO {kvs : List (Key × V)} (ok : HOk P w H h) (e : H a = some (.dK kvs)) : kvs.length ≤ sizeLine ∧ (a == sysModules) = false ∧ ∃ vs, KV kvs vs ∧ h.DictOf (Z3 P w) a vs := Zbk ok (.inl e)
theorem Td {ks : List Key} (ok : HOk P w H h) (e : H a = some (.tup (ks.map kV))) : (tupleKind (Z3 P w)).is h ks a := by
 obtain ⟨_, its, r, o, h1, h2, n, h3⟩ := (show Qb P w H h a (.tup (ks.map kV)) from ok a _ e)
 exact ⟨o, its.toArray, n, h1, h2, h3, by simpa using YC r⟩
theorem ZcI {kvs : List (List Key × V)} (ok : HOk P w H h) (e : Rd H a (.dT kvs)) : kvs.length ≤ sizeLine ∧ (a == sysModules) = false ∧
  ∃ xs, KT H kvs xs ∧ h.DictOfH (tupleKind (Z3 P w)) a xs := by
 obtain ⟨z, y, xs, r, o, es, ep, h1, h2, h3, h4, h5⟩ := (show Qb P w H h a (.dT kvs) from Pw ok e)
 refine ⟨z, y, xs, r, o, es, ep, h1, h2, h3, h4, fun x hx => ?_, h5⟩
 have all : ∀ {l : List (List Key × V)} {m : List (List Key × Addr × Value)}, KT H l m → ∀ x ∈ m, (tupleKind (Z3 P w)).is h x.1 x.2.1 := by
  intro l m q
  induction q with
  | nil => intro x hx; exact nomatch hx
  | @cons p q ps qs hq t ih =>
   intro x hx
   rcases List.mem_cons.mp hx with e | hx
   ·subst e
    exact Td ok (by rw [← hq.1]; exact hq.2.1)
   ·exact ih x hx
 exact all r x hx
theorem Zcv {kvs : List (List Key × V)} (ok : HOk P w H h) (e : H a = some (.dT kvs)) : kvs.length ≤ sizeLine ∧ (a == sysModules) = false ∧
  ∃ xs, KT H kvs xs ∧ h.DictOfH (tupleKind (Z3 P w)) a xs := ZcI ok (.inl e)
end
noncomputable def Ey (H : Hp) (a : Addr) (y : V) (r : Option V) : Prop :=
 (∃ kvs k, Rd H a (.dK kvs) ∧ y = kV k ∧ r = Xh kvs k) ∨ ∃ kvs k b, Rd H a (.dT kvs) ∧ y = .ref b ∧ H b = some (.tup (k.map kV)) ∧ r = Xh kvs k
noncomputable def Pk (H : Hp) (a : Addr) (y v : V) (H' : Hp) : Prop :=
 (∃ kvs k, H a = some (.dK kvs) ∧ y = kV k ∧ kvs.length < sizeLine ∧ H' = upd H a (.dK (putK kvs k v))) ∨
 ∃ kvs k b, H a = some (.dT kvs) ∧ y = .ref b ∧ H b = some (.tup (k.map kV)) ∧ kvs.length < sizeLine ∧ H' = upd H a (.dT (putK kvs k v))
theorem Ey.k {H : Hp} {a : Addr} {kvs : List (Key × V)} {k : Key} (e : H a = some (.dK kvs)) : Ey H a (kV k) (Xh kvs k) := .inl ⟨kvs, k, .inl e, rfl, rfl⟩
theorem Ey.t {H : Hp} {a b : Addr} {kvs : List (List Key × V)} {k : List Key} (e : H a = some (.dT kvs)) (eb : H b = some (.tup (k.map kV))) : Ey H a (.ref b) (Xh kvs k) := .inr ⟨kvs, k, b, .inl e, rfl, eb, rfl⟩
theorem Pk.k {H : Hp} {a : Addr} {kvs : List (Key × V)} {k : Key} {v : V} (e : H a = some (.dK kvs)) (hl : kvs.length < sizeLine) : Pk H a (kV k) v (upd H a (.dK (putK kvs k v))) := .inl ⟨kvs, k, e, rfl, hl, rfl⟩
theorem Pk.t {H : Hp} {a b : Addr} {kvs : List (List Key × V)} {k : List Key} {v : V} (e : H a = some (.dT kvs)) (eb : H b = some (.tup (k.map kV))) (hl : kvs.length < sizeLine) :
  Pk H a (.ref b) v (upd H a (.dT (putK kvs k v))) := .inr ⟨kvs, k, b, e, rfl, eb, hl, rfl⟩
section
variable {X : Cx} {pins : List (Addr × Obj)} {σ : St} {H : Hp} {s : Shared} {a : Addr} {y v : V} {u r : Value} {o : Option V} {A : Around} {E : Value → Shared → Prop}
theorem Inv.big (I : Inv X pins σ H s) : sysModules < s.heap.objs.size := by
 have h : mainGlobals < s.heap.objs.size := (I.mod.glob.keeps I.bk).lt
 exact Nat.lt_trans (by decide) h
theorem BU {h' : Heap} {t' : Nat} {ob : HO} (I : Inv X pins σ H s) (mu : Mut (H a)) (hs : Heap.SameBut a s.heap h') (he : ∃ q, h'.get? a = some q) (new : Qb X.prog X.w (upd H a ob) h' a ob) :
  Inv X pins σ (upd H a ob) { s with heap := h', toks := t' } :=
 I.write (x := a) (e := a) mu (.inl rfl) (fun b q hb z => (hs.2 b hb).trans z) he new
theorem Rc {P : Program} {w : World} {H' : Hp} {h' : Heap} {kvs : List (Key × V)} {vs : List (Key × Value)} (z : kvs.length ≤ sizeLine) (hd : (a == sysModules) = false) (rel : KV kvs vs) (dd : h'.DictOf (Z3 P w) a vs) :
  Qb P w H' h' a (.dK kvs) := ⟨z, hd, vs, rel, dd⟩
end
section
variable {X : Cx} {pins : List (Addr × Obj)} {σ : St} {H : Hp} {s : Shared} {a : Addr} {kvs : List (Key × V)} {k : Key} {u : Value} {A : Around} {E : Value → Shared → Prop}
end
noncomputable def ZfN (i : Expr) : Prop := ∀ ov iv, subscripted i false ov iv = operate [ov, iv] (getItem ov iv)
noncomputable def Zfa (td ty : TE) : TE := fun σ H Q => td σ H fun x H1 => ty σ H1 fun y H2 => ∃ a v, x = .ref a ∧ Ey H2 a y (some v) ∧ Q v H2
noncomputable def ZfO (ty td : TE) : TE := fun σ H Q => ty σ H fun y H1 => td σ H1 fun x H2 => ∃ a o, x = .ref a ∧ Ey H2 a y o ∧ Q (.bl o.isSome) H2
noncomputable def Zb6 (ty td : TE) : TE := fun σ H Q => ty σ H fun y H1 => td σ H1 fun x H2 => ∃ a o, x = .ref a ∧ Ey H2 a y o ∧ Q (.bl (!o.isSome)) H2
noncomputable def Zfi (td ty tv : TE) : TS := fun D σ H => tv σ H fun v H1 => td σ H1 fun x H2 => ty σ H2 fun y H3 => ∃ a H4, x = .ref a ∧ Pk H3 a y v H4 ∧ D.nx σ H4
noncomputable def Zfb (td ty tv : TE) (rd : V → V → Hp → VK → Prop) : TS := fun D σ H => td σ H fun x H1 => ty σ H1 fun y H2 => ∃ a v, x = .ref a ∧ Ey H2 a y (some v) ∧
 tv σ H2 fun y2 H3 => rd v y2 H3 fun z H4 => ∃ H5, Pk H4 a y z H5 ∧ D.nx σ H5
noncomputable def Zfd (td ty : TE) : TS := fun D σ H => td σ H fun x H1 => ty σ H1 fun y H2 => ∃ a kvs k, x = .ref a ∧ H2 a = some (.dK kvs) ∧ y = kV k ∧ (Xh kvs k).isSome = true ∧ D.nx σ (upd H2 a (.dK (B8 kvs k)))
section
variable {X : Cx} {o i e value : Expr} {pos pos' tpos : Pos} {td ty tv : TE}
end
theorem Gx {P : Program} {w : World} {H : Hp} (h : Heap) (hb : sysModules < h.objs.size) : Qb P w H (h.push { cls := .type "dict", data := .dict #[] }) h.objs.size (.dK []) :=
 ⟨Nat.zero_le _, beq_eq_false_iff_ne.mpr (Ne.symm (Nat.ne_of_lt hb)), [], .nil, Heap.DictOf.new h⟩
theorem Ld {P : Program} {w : World} {H : Hp} (h : Heap) (hb : sysModules < h.objs.size) : Qb P w H (h.push { cls := .type "dict", data := .dict #[] }) h.objs.size (.dT []) :=
 ⟨Nat.zero_le _, beq_eq_false_iff_ne.mpr (Ne.symm (Nat.ne_of_lt hb)), [], .nil, _, #[], 0, Heap.get?_push_size _ rfl, ⟨rfl, rfl, rfl⟩, rfl, rfl, List.nodup_nil⟩
noncomputable def T3 : TE := fun _ H Q => ∀ p, H p = none → Q (.ref p) (upd H p (.dK []))
noncomputable def Zd6 : TE := fun _ H Q => ∀ p, H p = none → Q (.ref p) (upd H p (.dT []))
section
variable {X : Cx} {pos : Pos}
theorem EK : PE X (.Dict [] [] pos) T3 := fun pins s σ H Q I h =>
 wpAny_Dict_empty ⟨.ref s.heap.objs.size, _, I.laid (a := s.heap.objs.size) (o := .dK []) (t' := s.toks) (fun _ _ q => Heap.get?_push_of_some _ q) (Nat.le_refl _) (Gx s.heap I.big), rfl, h _ (I.hok.fresh (Nat.le_refl _))⟩
end
noncomputable def Gm : List (TE × TE) → St → Hp → (List (V × V) → Hp → Prop) → Prop
 | [], _, H, Q => Q [] H
 | (tk, tv) :: r, σ, H, Q => tk σ H fun x H1 => tv σ H1 fun y H2 => Gm r σ H2 fun ps H3 => Q ((x, y) :: ps) H3
noncomputable abbrev VV : List (V × V) → List (Value × Value) → Prop := Paired fun p q => RelV p.1 q.1 ∧ RelV p.2 q.2
noncomputable def PPs (X : Cx) (pos : Pos) (keys : List (Option Expr)) (values : List Expr) (trs : List (TE × TE)) : Prop :=
 ∀ (pins : List (Addr × Obj)) (s : Shared) (σ : St) (H : Hp) (Q : List (V × V) → Hp → Prop), Inv X pins σ H s → Gm trs σ H Q →
  wpAny (model X.prog X.w) X.A (evalPairs (pairTrees keys values X.env pos)) (fun vs s' => ∃ ps H', Inv X pins σ H' s' ∧ VV ps vs ∧ Q ps H') X.xe s
theorem Nr {X : Cx} {pos : Pos} : PPs X pos [] [] [] := fun pins s σ H Q I h => pairTrees_nil_walk ⟨[], H, I, .nil, h⟩
theorem HP {X : Cx} {pos : Pos} {k v : Expr} {ks : List (Option Expr)} {vs : List Expr} {tk tv : TE} {trs : List (TE × TE)} (hk : PE X k tk) (hv : PE X v tv) (hr : PPs X pos ks vs trs) :
  PPs X pos (some k :: ks) (v :: vs) ((tk, tv) :: trs) := fun pins s σ H Q I h =>
 pairTrees_cons_walk (thn (hk pins s σ H _ I h) fun u s1 ⟨x, H1, I1, rx, q1⟩ => thn (hv pins s1 σ H1 _ I1 q1) fun w2 s2 ⟨y, H2, I2, ry, q2⟩ =>
  thn (hr pins s2 σ H2 _ I2 q2) fun ws s3 ⟨ps, H3, I3, rel, q3⟩ => ⟨(x, y) :: ps, H3, I3, .cons ⟨rx, ry⟩ rel, q3⟩)
noncomputable def YX (kvs more : List (Key × V)) : List (Key × V) := more.foldl (fun acc kv => putK acc kv.1 kv.2) kvs
theorem KV.merge : ∀ {more : List (Key × V)} {rs : List (Key × Value)} {kvs : List (Key × V)} {vs : List (Key × Value)}, KV more rs → KV kvs vs → KV (YX kvs more) (merged vs rs) := by
 intro more rs kvs vs r
 unfold KV at r
 induction r generalizing kvs vs with
 | nil => intro q; exact q
 | @cons p q ps qs h t ih =>
  intro r0
  have e : KV (putK kvs p.1 p.2) (stored vs q.1 q.2) := by
   have := r0.put p.1 h.2
   rw [← h.1]; exact this
  exact ih e
theorem Vv : ∀ (more kvs : List (Key × V)), (YX kvs more).length ≤ kvs.length + more.length
 | [], kvs => by show kvs.length ≤ kvs.length + 0; omega
 | p :: r, kvs => by
  have h1 := Vv r (putK kvs p.1 p.2)
  have h2 := WR kvs p.1 p.2
  show (YX (putK kvs p.1 p.2) r).length ≤ _
  rw [List.length_cons]; omega
theorem Xb {P : Program} {w : World} : ∀ {kvs : List (Key × V)} {ws : List (Value × Value)}, VV (kvs.map fun kv => (kV kv.1, kv.2)) ws → ∃ rs, Carries (Z3 P w) ws rs ∧ KV kvs rs
 | [], _, r => by rw [List.map_nil] at r; cases r; exact ⟨[], True.intro, .nil⟩
 | p :: kvs, _, r => by
  rw [List.map_cons] at r
  cases r with
  | @cons a b as bs h t =>
   obtain ⟨rs, c, q⟩ := Xb (P := P) (w := w) t
   obtain ⟨b1, b2⟩ := b
   exact ⟨(p.1, b2) :: rs, ⟨T5 h.1, rfl, c⟩, .cons ⟨rfl, h.2⟩ q⟩
noncomputable def ZbO (trs : List (TE × TE)) : TE := fun σ H Q => ∀ p, H p = none → Gm trs σ (upd H p (.dK [])) fun ps H2 => H2 p = some (.dK []) ∧ ∃ kvs : List (Key × V), ps = kvs.map (fun kv => (kV kv.1, kv.2)) ∧ kvs.length ≤ 15 ∧ Q (.ref p) (upd H2 p (.dK (YX [] kvs)))
theorem Nc {X : Cx} {pos : Pos} {keys : List (Option Expr)} {values : List Expr} {trs : List (TE × TE)} (h : PPs X pos keys values trs) (hall : keys.all (·.isSome) = true) (hl : keys.length = values.length) (h0 : keys ≠ [])
  (h15 : keys.length ≤ 15) : PE X (.Dict keys values pos) (ZbO trs) := by
 intro pins s σ H Q I q
 have hn := I.hok.fresh (Nat.le_refl s.heap.objs.size)
 have I1 := I.laid (a := s.heap.objs.size) (o := .dK []) (h' := s.heap.push { cls := .type "dict", data := .dict #[] }) (t' := s.toks) (fun _ _ q => Heap.get?_push_of_some _ q) (Nat.le_refl _) (Gx s.heap I.big)
 refine wpAny_Dict_walk (knd := Z3 X.prog X.w) hall hl h0 h15 (thn (h pins _ σ _ _ I1 (q _ hn)) fun ws s2 ⟨ps, H2, I2, rel, e, kvs, ep, lk, q2⟩ => ?_)
 subst ep
 obtain ⟨rs, c, rk⟩ := Xb (P := X.prog) (w := X.w) rel
 obtain ⟨z, hd, vs0, r0, dd⟩ := ZcO I2.hok e
 cases r0
 refine ⟨rs, c, dd, fun h' dd' hs => ⟨.ref s.heap.objs.size, _, ?_, rfl, q2⟩⟩
 have hz : (YX [] kvs).length ≤ sizeLine := by
  have h1 := Vv kvs []
  rw [List.length_nil] at h1
  rw [sizeLine_eq]; omega
 have he : ∃ q, h'.get? s.heap.objs.size = some q := let ⟨q, _, _, hq, _⟩ := dd'; ⟨q, hq⟩
 exact BU I2 (by rw [e]; exact True.intro) hs he (Rc hz hd (rk.merge .nil) dd')
structure M1 (X : Cx) (o : Expr) (m : Str) (apos : Pos) (e : Expr) (cpos : Pos) : Prop where
 base : attributeBase o m X.env (eval o X.env) = eval o X.env
 few : ((backTo cpos (starEach [e] X.env)).all (fun x => !x.1) && (backToKw cpos (keywordEach [] X.env)).all (fun x => x.1.isSome)
  && decide (([e] : List Expr).length + ([] : List Keyword).length + (if ([] : List Keyword).isEmpty then 0 else 1) < 30)) = true
 line : (apos.endLine == cpos.line) = true
 trees : backTo cpos (starEach [e] X.env) = [(false, eval e X.env)]
structure M2 (X : Cx) (o : Expr) (m : Str) (apos : Pos) (e f : Expr) (cpos : Pos) : Prop where
 base : attributeBase o m X.env (eval o X.env) = eval o X.env
 few : ((backTo cpos (starEach [e, f] X.env)).all (fun x => !x.1) && (backToKw cpos (keywordEach [] X.env)).all (fun x => x.1.isSome)
  && decide (([e, f] : List Expr).length + ([] : List Keyword).length + (if ([] : List Keyword).isEmpty then 0 else 1) < 30)) = true
 line : (apos.endLine == cpos.line) = true
 trees : backTo cpos (starEach [e, f] X.env) = [(false, eval e X.env), (false, eval f X.env)]
noncomputable def IsD (H : Hp) (a : Addr) : Prop := (∃ kvs, Rd H a (.dK kvs)) ∨ ∃ kvs, Rd H a (.dT kvs)
section
variable {X : Cx} {pins : List (Addr × Obj)} {σ : St} {H : Hp} {s : Shared} {a : Addr} {y d : V} {u r : Value} {o : Option V} {A : Around} {E : Value → Shared → Prop}
end
noncomputable def ZcT (td ty : TE) : TE := fun σ H Q => td σ H fun x H1 => ∃ a, x = .ref a ∧ IsD H1 a ∧ ty σ H1 fun y H2 => ∃ o, Ey H2 a y o ∧ Q (o.getD .non) H2
noncomputable def Zdn (td ty tx : TE) : TE := fun σ H Q => td σ H fun x H1 => ∃ a, x = .ref a ∧ IsD H1 a ∧ ty σ H1 fun y H2 => tx σ H2 fun z H3 => ∃ o, Ey H3 a y o ∧ Q (o.getD z) H3
noncomputable def ZdP (td ty : TE) : TE := fun σ H Q => td σ H fun x H1 => ∃ a, x = .ref a ∧ IsD H1 a ∧ ty σ H1 fun y H2 => ∃ kvs k v, H2 a = some (.dK kvs) ∧ y = kV k ∧ Xh kvs k = some v ∧ Q v (upd H2 a (.dK (B8 kvs k)))
noncomputable def Zdp (td ty tx : TE) : TE := fun σ H Q => td σ H fun x H1 => ∃ a, x = .ref a ∧ IsD H1 a ∧ ty σ H1 fun y H2 => tx σ H2 fun z H3 => ∃ kvs k, H3 a = some (.dK kvs) ∧ y = kV k ∧
 (∀ v, Xh kvs k = some v → Q v (upd H3 a (.dK (B8 kvs k)))) ∧ (Xh kvs k = none → Q z H3)
section
variable {X : Cx} {o e f : Expr} {apos cpos : Pos} {td ty tx : TE}
end
section
variable {X : Cx} {pins : List (Addr × Obj)} {σ : St} {H : Hp} {s : Shared} {a : Addr} {kvs : List (Key × V)} {A : Around} {E : Value → Shared → Prop}
end
section
variable {X : Cx} {pins : List (Addr × Obj)} {σ : St} {H : Hp} {s : Shared} {a : Addr} {y : V} {u : Value} {A : Around} {E : Value → Shared → Prop}
end
end L2
namespace Att
open PySem PySem.W PySem.Calls PyProof.Rows
theorem YY {P : Params} {h : Heap} : ∀ (ns : List Int) (vs : List Value), WellAll P h vs (ns.map WData.int) → IntsAre vs ns := by
 intro ns
 induction ns with
 | nil =>
  intro vs w
  rw [List.map_nil] at w
  cases w
  exact .nil
 | cons n ns ih =>
  intro vs w
  rw [List.map_cons] at w
  cases w with
  | cons a b =>
   cases a
   exact .cons _ _ (ih _ b)
theorem BX {l : OpenLaw} {n : Nat} (hn : l.most = some n) {P : Params} {h : Heap} {args : List WData} {vals : List Value}
  (hpre : l.row.toRowW.claim.pre args = true) (hwl : WellAll P h vals args) :
  ∃ a vs ns, vals = [Value.ref a] ∧ args = [WData.list (ns.map WData.int)] ∧ h.get? a = some { cls := .type "list", data := .seq vs.toArray } ∧ IntsAre vs ns ∧ ns.length ≤ n := by
 have hsh : WShape.hasAll [] args [.list .int] = true := (pre_splitW hpre).1
 have hc : l.pre.holds [] { args := args } = true := (pre_splitW hpre).2
 obtain ⟨d, r, rfl, h1, h2⟩ := hasAllW_cons hsh
 obtain rfl := hasAllW_nil h2
 obtain ⟨xs, rfl, h3⟩ := hasW_list h1
 obtain ⟨ns, rfl⟩ := items_int h3
 have hlen : ns.length ≤ n := by
  unfold OpenLaw.pre at hc
  have h4 : (WTm.not (.lt (.lit (.int (n : Int))) (.len (.arg 0)))).holds [] { args := [.list (ns.map .int)] } = true := by
   have h4 := (holds_andW hc).1
   rw [hn] at h4
   exact h4
  have h5 := condW_of h4 (w_not (w_lt w_lit (w_len_list (w_arg rfl))))
  rw [List.length_map] at h5
  refine Nat.le_of_not_lt fun q => ?_
  have q' : (n : Int) < ((ns.length : Nat) : Int) := by omega
  first
   | (rw [decide_eq_true q'] at h5; exact absurd h5 (by decide))
   | (simp at h5; omega)
 cases hwl with
 | cons w1 w2 =>
  cases w2
  cases w1 with
  | list ho hall => exact ⟨_, _, ns, rfl, rfl, ho, YY ns _ hall, hlen⟩
theorem Cd (l : OpenLaw) (args : List WData) : l.row.toRowW.claim.post args (.bool true) args = true :=
 postW_of (r := l.row.toRowW) (X := (true == true))
  (show WShape.has [] (.bool true) .bool = true by first | rfl | decide | simp [WShape.has, WShape.arms, WShape.armsAll])
  (show (WTm.eq .res (.lit (.bool true))).value [] { args := args, res := some (.bool true), after := args } = some (.bool (true == true)) from w_eq_bool (w_res rfl) w_lit) rfl
theorem Ux {l : OpenLaw} {n : Nat} {q : Program} {loose : List Str} {XP : (Str → Option Value) → Heap → Prop} {YP : World → Heap → Prop} {d : DefRec}
  (hn : l.most = some n) (hdf : d.params.defaults = [])
  (call : ∀ (w : World) (s₀ s₁ : Shared) (mg mb : Str → Option Value) (fa : Addr) (o : Obj) (pm cd doc : Value) (a : Addr) (vs : List Value) (ns : List Int),
   Ground q loose [] XP w s₀ mg mb s₁.heap → YP w s₁.heap →
   s₁.heap.get? fa = some o → o.data = .func (docDef d.name d.params d.body d.scope pm cd doc) → s₁.heap.CodeRec cd d.name → mg d.name = some (.ref fa) →
   s₁.heap.get? a = some { cls := .type "list", data := .seq vs.toArray } → IntsAre vs ns → ns.length ≤ n → s₁.gens = #[] →
   codeAny (model l.prog w) callerA (.call (.ref fa) ⟨[.ref a], []⟩) (fun r s' => r = .ok (.ret (.bool true)) ∧ OldK s₁.heap s'.heap ∧ s'.os = s₁.os ∧ AllBare s'.gens) s₁) :
  WalkO q loose XP YP l.row.toRowW d [] (fun f vs => PySem.call f vs) := by
 intro w s₀ s₁ mg mb G Y fa o pm cd doc dV kV ho hd hcd hD hmg hg args vals as hpre hlay hrd hwl hlo
 obtain rfl : dV = .none := Dflts.none hD hdf
 obtain rfl : kV = .none := Dflts.noKw hD
 obtain ⟨a, vs, ns, rfl, rfl, hobj, hints, hlen⟩ := BX hn hpre hwl
 refine enter_call (codeAny_mono (call w s₀ s₁ mg mb fa o pm cd doc a vs ns G Y ho (fd_plain hd) hcd hmg hobj hints hlen hg) fun r s' hq => ?_)
 obtain ⟨rfl, h2, h3, h4⟩ := hq
 exact ⟨.inl ⟨.bool true, .bool true, [], rfl, fun _ => rfl, .bool true, Cd l _, fun _ => ⟨List.Pairwise.nil, fun _ hm => (nomatch hm)⟩⟩, h2, h3, h4⟩
section
variable {prog : Program} {w : World} {A : Around} {E : Value → Shared → Prop} {s : Shared} {K : Frag}
noncomputable def Zc1 (h : Heap) : Heap := { h with objs := #[] }
noncomputable def ledger (h : Heap) (L d : Addr) : List (Addr × Obj) := (List.range h.objs.size).filterMap fun a => if a = L ∨ a = d then none else (h.get? a).map fun o => (a, o)
end
end Att
namespace L2
open PySem PySem.Spec PyProof.Rows
theorem KC : ∀ {vs : List Value} {ns : List Int}, IntsAre vs ns → Vals (ns.map V.int) vs
 | _, _, .nil => .nil
 | _, _, .cons n t h => .cons ⟨t, rfl⟩ (KC h)
noncomputable def ZaT (H : Hp) : Prop := ∀ b, H b = none ∨ ∃ o xs, H b = some (.frz o (.lst xs))
theorem LC {P : Program} {w : World} {K : PySem.W.Frag} {mg mb : Str → Option Value} {CX : CXT} {k : Nat} {fa a : Addr} {fd : FuncData} {x : Str} {sp : Sp} {s₁ : Shared} {vs : List Value} {ns : List Int}
  (KX : K.In s₁.heap) (hns : s₁.heap.Ns mainGlobals mg) (hb : s₁.heap.Ns builtinsNs mb) (hbb : ∀ x : Str, x ≠ "__name__" → mb x = bootBuiltins x) (hlim : s₁.heap.NoLimit) (hg : s₁.gens = #[])
  (ha : s₁.heap.get? a = some { cls := .type "list", data := .seq vs.toArray }) (hi : IntsAre vs ns) (hl : ns.length ≤ sizeLine) (hr : Vw k callerA)
  (F : ∀ base : Heap, K.In base → base.Ns mainGlobals mg → ZZ P w K mg base CX k fa fd [x] sp) (hbind : ∀ (s : Shared) (u : Value), BindsTo s fd ⟨[u], []⟩ [(x, u)])
  (hsp : ∀ H : Hp, ZaT H → SqL K H a (ns.map V.int) → sp [.ref a] H (fun v _ => v = .bl true) fun _ _ _ => False)
  (hCX : ∀ H e s', CX [] H s₁ (fun _ _ _ => False) e s' → False) :
  codeAny (model P w) callerA (.call (.ref fa) ⟨[.ref a], []⟩) (fun r s' => r = .ok (.ret (.bool true)) ∧ OldK s₁.heap s'.heap ∧ s'.os = s₁.os ∧ AllBare s'.gens) s₁ := by
 have rv := KC hi
 have lenV := hi.length
 have core : ∀ H : Hp, ZaT H → SqL K H a (ns.map V.int) → HOk P w H s₁.heap → (∀ b, H b ≠ none → b = a) → (H a ≠ none → K.lookup a = none) →
   codeAny (model P w) callerA (.call (.ref fa) ⟨[.ref a], []⟩) (fun r s' => r = .ok (.ret (.bool true)) ∧ OldK s₁.heap s'.heap ∧ s'.os = s₁.os ∧ AllBare s'.gens) s₁ := by
  intro H hO hS hok hA hK
  have base_of : ∀ {b : Addr} {o : Obj}, s₁.heap.get? b = some o → H b = none → (Lq s₁.heap H).get? b = some o := fun e n => Hg e n
  have noA : ∀ {b : Addr} {o : Obj} {es : Array DictEntry} {ep : Nat}, s₁.heap.get? b = some o → o.data = .dict es ep → H b = none := fun {b o es ep} e d => by
   cases q : H b with
   | none => rfl
   | some u =>
    have e' : b = a := hA b (by rw [q]; simp)
    subst e'
    rw [ha] at e; cases e
    have d' : Data.seq vs.toArray _ = Data.dict es ep := d
    cases d'
  have nsK : ∀ {b : Addr} {m : Str → Option Value}, s₁.heap.Ns b m → (Lq s₁.heap H).Ns b m := fun {b m} ⟨o, es, ep, e, d, r⟩ => ⟨o, es, ep, base_of e (noA e d), d, r⟩
  have hKb : K.In (Lq s₁.heap H) := fun b o e => base_of (KX b o e) (by
   cases q : H b with
   | none => rfl
   | some u =>
    have e' : b = a := hA b (by rw [q]; simp)
    subst e'
    rw [hK (by rw [q]; simp)] at e; cases e)
  have hM : Mod K mg (Lq s₁.heap H) := ⟨hKb, nsK hns, ⟨mb, nsK hb, hbb⟩, let ⟨mc, h1, h2⟩ := hlim; ⟨mc, nsK h1, h2⟩⟩
  have e0 : ZaR P w K mg (Lq s₁.heap H) callerA [] s₁ H := ⟨rfl, hM, fun b o e => O3 e, Nat.le_of_eq (Dc _ _), trivial, fun b hb => absurd (show b ∈ ([] : List Addr) from hb) (by simp), hok, .of_eq hg⟩
  refine codeAny_mono ((F _ hKb (nsK hns)).run callerA [] s₁ H ⟨[.ref a], []⟩ [.ref a] [.ref a] _ _ hr e0 (hbind s₁ (.ref a)) (.cons rfl .nil) (hsp H hO hS)) fun r s' h => ?_
  cases r with
  | error e => exact (hCX H e s' h).elim
  | ok fl =>
   cases fl with
   | next => exact False.elim h
   | brk => exact False.elim h
   | cont => exact False.elim h
   | ret u =>
    obtain ⟨v, H', os, bare, un, hok', r', q⟩ := h
    have q' : v = .bl true := q
    subst q'
    obtain rfl : u = Value.bool true := r'
    refine ⟨rfl, OldK.of_keep fun b o e => ?_, os, bare⟩
    cases q : H b with
    | none => exact un.keep b o e q (by intro z; exact absurd (show b ∈ ([] : List Addr) from z) (by simp)) (by simp)
    | some u =>
     rcases hO b with z | ⟨ob, xs, z⟩
     ·rw [q] at z; cases z
     ·have z2 := un.frzs b ob _ z
      obtain ⟨e1, _⟩ := hok b _ z
      obtain ⟨e2, _⟩ := hok' b _ z2
      rw [e] at e1; cases e1
      exact e2
 cases hk : K.lookup a with
 | some o =>
  have e := KX a o hk
  rw [ha] at e
  cases e
  refine core (fun _ => none) (fun _ => .inl rfl) (.inr ⟨_, vs.toArray, _, hk, rfl, rfl, rfl, by rw [List.size_toArray, lenV]; exact hl, by simpa using rv⟩) (fun b u z => by have z' : (none : Option HO) = some u := z; cases z') (fun b z => absurd rfl z) fun z => absurd rfl z
 | none =>
  refine core (fun b => if b = a then some (.frz { cls := .type "list", data := .seq vs.toArray } (.lst (ns.map V.int))) else none) (fun b => ?_) (.inl (.inr ⟨{ cls := .type "list", data := .seq vs.toArray }, if_pos rfl⟩)) (fun b u z => ?_) (fun b z => ?_) fun _ => hk
  ·by_cases hb : b = a
   ·exact .inr ⟨_, _, if_pos hb⟩
   ·exact .inl (if_neg hb)
  ·by_cases hb : b = a
   ·have z' := (if_pos hb).symm.trans z
    cases z'
    subst hb
    exact ⟨ha, by rw [List.length_map]; exact hl, vs, _, rv, ha⟩
   ·have z' := (if_neg hb).symm.trans z
    cases z'
  ·by_cases hb : b = a
   ·exact hb
   ·exact absurd (if_neg hb) z
end L2
namespace L2
open PySem PySem.Spec PyProof.Rows
noncomputable abbrev KOf {K : PySem.W.Frag} {h : Heap} (_ : K.In h) : PySem.W.Frag := K
theorem OG {l : PySem.W.OpenLaw} {n k : Nat} {q : Program} {loose : List Str} {XP : (Str → Option Value) → Heap → Prop} {YP : World → Heap → Prop} {d : DefRec} {K : Params → PySem.W.Frag} {CX : World → CXT} {sp : World → Sp} {x : Str}
  (hn : l.most = some n) (hn2 : n ≤ sizeLine) (hdf : d.params.defaults = []) (hr : Vw k callerA)
  (hY : ∀ (w : World) (h : Heap), YP w h → (K w.params).In h)
  (F : ∀ (w : World) (mg : Str → Option Value) (fa : Addr) (h : Heap), (K w.params).In h → h.Ns mainGlobals mg → mg d.name = some (.ref fa) →
   ∃ fd : FuncData, (∀ (s : Shared) (u : Value), BindsTo s fd ⟨[u], []⟩ [(x, u)]) ∧
    ∀ base : Heap, (K w.params).In base → base.Ns mainGlobals mg → ZZ l.prog w (K w.params) mg base (CX w) k fa fd [x] (sp w))
  (hsp : ∀ (w : World) (H : Hp) (a : Addr) (ns : List Int), ns.length ≤ n → ZaT H → SqL (K w.params) H a (ns.map V.int) → sp w [.ref a] H (fun v _ => v = .bl true) fun _ _ _ => False)
  (hCX : ∀ (w : World) (H : Hp) (s : Shared) (e : Value) (s' : Shared), CX w [] H s (fun _ _ _ => False) e s' → False) :
  PySem.W.WalkO q loose XP YP l.row.toRowW d [] (fun f vs => PySem.call f vs) := by
 refine Att.Ux hn hdf fun w s₀ s₁ mg mb fa o pm cd doc a vs ns G Y ho hd hcd hmg hobj hints hlen hg => ?_
 have KX := hY w _ Y
 obtain ⟨fd, hb, hF⟩ := F w mg fa _ KX G.T.g hmg
 exact LC KX G.T.g G.T.b G.T.builtins G.T.nolimit hg hobj hints (Nat.le_trans hlen hn2) hr hF hb (fun H hO hS => hsp w H a ns hlen hO hS) fun H e s' => hCX w H s₁ e s'
end L2
namespace L2
open PySem PySem.Spec PyProof.Rows
noncomputable def inClass (s : Stmt) (j : Nat) : Stmt := match s with
 | .ClassDef _ _ _ body _ _ _ _ _ _ _ => body.getD j (.Pass ⟨0, 0, 0, 0⟩)
 | _ => .Pass ⟨0, 0, 0, 0⟩
noncomputable def Zv (s : Stmt) : Arguments := match s with
 | .FunctionDef _ a _ _ _ _ _ _ _ _ => a
 | _ => { posonlyargs := [], args := [], vararg := none, kwonlyargs := [], kw_defaults := [], kwarg := none, defaults := [] }
noncomputable def Zo (s : Stmt) : List Stmt := match s with
 | .FunctionDef _ _ b _ _ _ _ _ _ _ => b
 | _ => []
noncomputable def Ze (s : Stmt) : Scope := match s with
 | .FunctionDef _ _ _ _ _ _ sc _ _ _ => sc
 | _ => { kind := .function, names := [], isGenerator := false, isCoroutine := false }
noncomputable abbrev CX0 : CXT := fun _ _ _ _ _ _ => False
noncomputable abbrev E0 : XK := fun _ _ _ => False
theorem Zw {X : Cx} : Passes CX0 X E0 := fun _ _ _ _ _ _ _ h => h.elim
structure Fun (K : PySem.W.Frag) (x qual : Str) (st : Stmt) (f : Addr) (fd : FuncData) : Prop where
 ex : ∃ (oc : Value) (od : Option Addr) (kV doc pm : Value) (an : Option Addr) (cdv ct : Value) (osl : Array (Option Value)),
  fd = PySem.W.fnOf x qual (Zv st) (Zo st) (Ze st) .none kV doc pm an cdv ct ∧ K.lookup f = some ⟨oc, od, .func fd, osl⟩ ∧ PySem.W.codeIn K cdv qual = true
 kp : PySem.W.keepIn K (.ref f) = true
section
variable {P : Program} {w : World} {K : PySem.W.Frag} {mg : Str → Option Value} {base : Heap}
theorem Fun.ok {x qual : Str} {st : Stmt} {f : Addr} {fd : FuncData} {N ps : List Str} {k : Nat} {sp : Sp} (F : Fun K x qual st f fd) (S : Zt N ps (Ze st)) (len : ∀ vs H Q E, sp vs H Q E → vs.length = ps.length)
  (hbody : ∀ (cdv : Value) (A : Around) (outer : List Env) (s : Shared) (H : Hp) (vs : List V) (Q : VK) (E : XK), Vw k (A.deeper (envOfC qual (Ze st) s.heap.objs.size f cdv)) → sp vs H Q E →
   ∃ t, PSs (G6 CX0 P w K mg base N qual (Ze st) f cdv A outer s H E).nox (Zo st) t ∧ t { nx := fun _ H' => Q .non H', rt := Q } (start N vs) H) : ZZ P w K mg base CX0 (k + 1) f fd ps sp := by
 obtain ⟨oc, od, kV, doc, pm, an, cdv, ct, osl, rfl, lk, hcd⟩ := F.ex
 refine Rl lk hcd S len fun A outer s H vs Q E hr hsp => ?_
 obtain ⟨t, h, q⟩ := hbody cdv A outer s H vs Q E hr hsp
 exact ⟨t, h.nox, q⟩
theorem Fun.binds {x qual : Str} {st : Stmt} {f : Addr} {fd : FuncData} {ps : List Str} (F : Fun K x qual st f fd)
  (h : ∀ (kV doc pm : Value) (an : Option Addr) (cdv ct : Value) (us : List Value), us.length = ps.length → bindArgs (PySem.W.fnOf x qual (Zv st) (Zo st) (Ze st) .none kV doc pm an cdv ct) ⟨us, []⟩ = pure (ps.zip us)) : Binds K fd ps [] := by
 obtain ⟨oc, od, kV, doc, pm, an, cdv, ct, osl, rfl, lk, hcd⟩ := F.ex
 exact .all (h kV doc pm an cdv ct)
theorem ZX {x qual : Str} {st : Stmt} {f : Addr} {oc : Value} {od an : Option Addr} {osl : Array (Option Value)} {kV doc pm cdv ct : Value} (l : K.lookup f = some ⟨oc, od, .func (PySem.W.fnOf x qual (Zv st) (Zo st) (Ze st) .none kV doc pm an cdv ct), osl⟩)
  (c : PySem.W.codeIn K cdv qual = true) (k : PySem.W.keepIn K (.ref f) = true) : Fun K x qual st f (PySem.W.fnOf x qual (Zv st) (Zo st) (Ze st) .none kV doc pm an cdv ct) := ⟨⟨oc, od, kV, doc, pm, an, cdv, ct, osl, rfl, l, c⟩, k⟩
end
section
variable {X : Cx}
end
noncomputable def LI (H H' : Hp) : Prop := ∀ b o, H b = some o → H' b = some o
theorem LI.refl (H : Hp) : LI H H := fun _ _ h => h
theorem LI.trans {H H1 H2 : Hp} (a : LI H H1) (b : LI H1 H2) : LI H H2 := fun c o h => b c o (a c o h)
theorem LI.free {H H' : Hp} (e : LI H H') {l : Addr} (h : H' l = Option.none) : H l = Option.none := by
 cases q : H l with
 | none => rfl
 | some o =>
  rw [e l o q] at h
  cases h
end L2
namespace DL
open PySem PySem.Spec PyProof.Rows L2
inductive DV where
 | dat (d : PyData)
 | own (a : Addr)
 | ty (n : String)
  | mix (xs : List DV)
inductive OO where
 | lst (ds : List PyData)
  | dct (ks : List (List Key))
  | dtv (kvs : List (List Key × PyData))
  | dkv (kvs : List (Key × PyData))
  | dko (kvs : List (Key × DV))
  | fdk (o : Obj) (kvs : List (Key × PyData))
  | lsv (n : Nat) (xs : List DV)
  | ext (φ : Heap → Prop)
  | gst (N₀ : Addr → Prop) (H₀ : Hp)
noncomputable abbrev Mp := Addr → Option OO
noncomputable def ZF (M : Mp) (a : Addr) (o : OO) : Mp := fun b => if b = a then some o else M b
noncomputable def V5 (M : Mp) (a : Addr) : Mp := fun b => if b = a then none else M b
theorem Qe {M : Mp} {a : Addr} {o : OO} : ZF M a o a = some o := by unfold ZF; rw [if_pos rfl]
theorem ZV {M : Mp} {a b : Addr} {o : OO} (h : b ≠ a) : ZF M a o b = M b := by unfold ZF; rw [if_neg h]
theorem CQ {M : Mp} {a : Addr} {o u : OO} : ZF (ZF M a o) a u = ZF M a u := by
 funext b; unfold ZF; split <;> rfl
theorem Wx {M : Mp} {a : Addr} : V5 M a a = none := by unfold V5; rw [if_pos rfl]
theorem YI {M : Mp} {a b : Addr} (h : b ≠ a) : V5 M a b = M b := by unfold V5; rw [if_neg h]
noncomputable def kD : Key → PyData
 | .inl i => .int i
 | .inr x => .str x
noncomputable def KTu (K : PySem.W.Frag) (a : Addr) (xs : List V) : Prop :=
 ∃ (o : Obj) (its : Array Value) (n : Nat), K.lookup a = some o ∧ o.cls = .type "tuple" ∧ o.data = .seq its n ∧ its.size ≤ sizeLine ∧ Vals xs its.toList
noncomputable def KLs (K : PySem.W.Frag) (a : Addr) (xs : List V) : Prop :=
 ∃ (o : Obj) (its : Array Value) (n : Nat), K.lookup a = some o ∧ o.cls = .type "list" ∧ o.dict = none ∧ o.data = .seq its n ∧ its.size ≤ sizeLine ∧ Vals xs its.toList
noncomputable def TupAt (K : PySem.W.Frag) (M : Mp) (H : Hp) (a : Addr) (xs : List V) : Prop := (M a = none ∧ Rd H a (.tup xs)) ∨ KTu K a xs
noncomputable def LstAt (K : PySem.W.Frag) (M : Mp) (H : Hp) (a : Addr) (xs : List V) : Prop := (M a = none ∧ Rd H a (.lst xs)) ∨ KLs K a xs
theorem TupAt.sq {K : PySem.W.Frag} {M : Mp} {H : Hp} {a : Addr} {xs : List V} (h : TupAt K M H a xs) : SqT K H a xs := by
 rcases h with ⟨_, h⟩ | h
 ·exact .inl h
 ·exact .inr h
theorem LstAt.sq {K : PySem.W.Frag} {M : Mp} {H : Hp} {a : Addr} {xs : List V} (h : LstAt K M H a xs) : SqL K H a xs := by
 rcases h with ⟨_, h⟩ | h
 ·exact .inl h
 ·exact .inr h
mutual
inductive Dt (K : PySem.W.Frag) (M : Mp) (H : Hp) : V → PyData → Prop
 | non : Dt K M H .non .none
 | bl (b : Bool) : Dt K M H (.bl b) (.bool b)
 | int (i : Int) : Dt K M H (.int i) (.int i)
 | str (x : Str) : Dt K M H (.str x) (.str x)
 | tup {a : Addr} {xs : List V} {ds : List PyData} : TupAt K M H a xs → Dts K M H xs ds → Dt K M H (.ref a) (.tuple ds)
 | lst {a : Addr} {xs : List V} {ds : List PyData} : LstAt K M H a xs → Dts K M H xs ds → Dt K M H (.ref a) (.list ds)
 | dK {a : Addr} {kvs : List (Key × V)} {ds : List PyData} : M a = none → H a = some (.dK kvs) → Dts K M H (kvs.map (·.2)) ds → Dt K M H (.ref a) (.dict ((kvs.map fun kv => kD kv.1).zip ds))
 | dT {a : Addr} {kvs : List (List Key × V)} {ds : List PyData} : M a = none → H a = some (.dT kvs) → Dts K M H (kvs.map (·.2)) ds → kvs ≠ [] → Dt K M H (.ref a) (.dict ((kvs.map fun kv => PyData.tuple (kv.1.map kD)).zip ds))
 | dX {a b : Addr} {φ : Heap → Prop} {v : V} {dk d : PyData} : M a = none → H a = some (.ext φ) → (a == sysModules) = false →
   (∀ h, φ h → ∃ o es n u, h.get? a = some o ∧ o.cls = .type "dict" ∧ o.data = .dict es n ∧ es.toList.map (·.key) = [.ref b] ∧ es.toList.map (·.val) = [u] ∧ RelV v u) → Dt K M H (.ref b) dk → Dt K M H v d → Dt K M H (.ref a) (.dict [(dk, d)])
inductive Dts (K : PySem.W.Frag) (M : Mp) (H : Hp) : List V → List PyData → Prop
 | nil : Dts K M H [] []
 | cons {x : V} {xs : List V} {d : PyData} {ds : List PyData} : Dt K M H x d → Dts K M H xs ds → Dts K M H (x :: xs) (d :: ds)
end
structure Step (M : Mp) (H : Hp) (M' : Mp) (H' : Hp) : Prop where
 keep : ∀ b o, M b = none → H b = some o → H' b = some o
 free : ∀ b o, M b = none → H b = some o → M' b = none
theorem Step.refl {M : Mp} {H : Hp} : Step M H M H := ⟨fun _ _ _ h => h, fun _ _ h _ => h⟩
theorem Step.trans {M M1 M2 : Mp} {H H1 H2 : Hp} (a : Step M H M1 H1) (b : Step M1 H1 M2 H2) : Step M H M2 H2 :=
 ⟨fun c o h1 h2 => b.keep c o (a.free c o h1 h2) (a.keep c o h1 h2), fun c o h1 h2 => b.free c o (a.free c o h1 h2) (a.keep c o h1 h2)⟩
section
variable {K : PySem.W.Frag} {M M' : Mp} {H H' : Hp}
theorem BI {a : Addr} {u : HO} (st : Step M H M' H') (hm : M a = none) (h : Rd H a u) : M' a = none ∧ Rd H' a u := by
 rcases h with h | ⟨o, h⟩
 ·exact ⟨st.free _ _ hm h, .inl (st.keep _ _ hm h)⟩
 ·exact ⟨st.free _ _ hm h, .inr ⟨o, st.keep _ _ hm h⟩⟩
theorem TupAt.step {a : Addr} {xs : List V} (h : TupAt K M H a xs) (st : Step M H M' H') : TupAt K M' H' a xs := by
 rcases h with ⟨h1, h2⟩ | h
 ·exact .inl (BI st h1 h2)
 ·exact .inr h
theorem LstAt.step {a : Addr} {xs : List V} (h : LstAt K M H a xs) (st : Step M H M' H') : LstAt K M' H' a xs := by
 rcases h with ⟨h1, h2⟩ | h
 ·exact .inl (BI st h1 h2)
 ·exact .inr h
mutual
theorem Dt.step (st : Step M H M' H') : ∀ {v : V} {d : PyData}, Dt K M H v d → Dt K M' H' v d
 | _, _, .non => .non
 | _, _, .bl b => .bl b
 | _, _, .int i => .int i
 | _, _, .str x => .str x
 | _, _, .tup h1 h2 => .tup (h1.step st) (Dts.step st h2)
 | _, _, .lst h1 h2 => .lst (h1.step st) (Dts.step st h2)
 | _, _, .dK h0 h1 h2 => .dK (st.free _ _ h0 h1) (st.keep _ _ h0 h1) (Dts.step st h2)
 | _, _, .dT h0 h1 h2 h3 => .dT (st.free _ _ h0 h1) (st.keep _ _ h0 h1) (Dts.step st h2) h3
 | _, _, .dX h0 h1 h2 h3 h4 h5 => .dX (st.free _ _ h0 h1) (st.keep _ _ h0 h1) h2 h3 (Dt.step st h4) (Dt.step st h5)
theorem Dts.step (st : Step M H M' H') : ∀ {vs : List V} {ds : List PyData}, Dts K M H vs ds → Dts K M' H' vs ds
 | _, _, .nil => .nil
 | _, _, .cons h1 h2 => .cons (Dt.step st h1) (Dts.step st h2)
end
theorem Dts.length : ∀ {vs : List V} {ds : List PyData}, Dts K M H vs ds → vs.length = ds.length
 | _, _, .nil => rfl
 | _, _, .cons _ h => by rw [List.length_cons, List.length_cons, Dts.length h]
theorem Dts.get : ∀ {vs : List V} {ds : List PyData} {i : Nat} {d : PyData}, Dts K M H vs ds → ds[i]? = some d → ∃ v, vs[i]? = some v ∧ Dt K M H v d
 | _, _, _, _, .nil, e => by simp at e
 | _, _, 0, _, .cons h _, e => by simp at e; subst e; exact ⟨_, rfl, h⟩
 | _, _, i + 1, d, .cons _ h, e => by
  obtain ⟨v, h1, h2⟩ := Dts.get (i := i) (d := d) h (by simpa using e)
  exact ⟨v, by simpa using h1, h2⟩
theorem Dts.Zab : ∀ {vs : List V} {ds : List PyData} {i : Nat} {v : V}, Dts K M H vs ds → vs[i]? = some v → ∃ d, ds[i]? = some d ∧ Dt K M H v d
 | _, _, _, _, .nil, e => by simp at e
 | _, _, 0, _, .cons h _, e => by simp at e; subst e; exact ⟨_, rfl, h⟩
 | _, _, i + 1, v, .cons _ h, e => by
  obtain ⟨d, h1, h2⟩ := Dts.Zab (i := i) (v := v) h (by simpa using e)
  exact ⟨d, by simpa using h1, h2⟩
theorem Dts.append : ∀ {vs ws : List V} {ds es : List PyData}, Dts K M H vs ds → Dts K M H ws es → Dts K M H (vs ++ ws) (ds ++ es)
 | _, _, _, _, .nil, h => h
 | _, _, _, _, .cons h1 h2, h => .cons h1 (Dts.append h2 h)
theorem Dts.take : ∀ {vs : List V} {ds : List PyData} (n : Nat), Dts K M H vs ds → Dts K M H (vs.take n) (ds.take n)
 | _, _, 0, _ => .nil
 | _, _, _ + 1, .nil => .nil
 | _, _, n + 1, .cons h1 h2 => .cons h1 (Dts.take n h2)
theorem Dts.drop : ∀ {vs : List V} {ds : List PyData} (n : Nat), Dts K M H vs ds → Dts K M H (vs.drop n) (ds.drop n)
 | _, _, 0, h => h
 | _, _, _ + 1, .nil => .nil
 | _, _, n + 1, .cons _ h2 => Dts.drop n h2
theorem Dts.set {v : V} {d : PyData} (h : Dt K M H v d) : ∀ {vs : List V} {ds : List PyData} (i : Nat), Dts K M H vs ds → Dts K M H (vs.set i v) (ds.set i d)
 | _, _, _, .nil => .nil
 | _, _, 0, .cons _ t => .cons h t
 | _, _, i + 1, .cons q t => .cons q (Dts.set h i t)
theorem Dts.ints : ∀ (ns : List Int), Dts K M H (ns.map V.int) (ns.map PyData.int)
 | [] => .nil
 | n :: ns => .cons (.int n) (Dts.ints ns)
mutual
inductive Mx (K : PySem.W.Frag) (M : Mp) (H : Hp) : V → List DV → Prop
 | mk {a : Addr} {vs : List V} {xs : List DV} : M a = none → H a = some (.tup vs) → Mxs K M H vs xs → Mx K M H (.ref a) xs
inductive Mxs (K : PySem.W.Frag) (M : Mp) (H : Hp) : List V → List DV → Prop
 | nil : Mxs K M H [] []
 | dat {v : V} {d : PyData} {vs : List V} {xs : List DV} : Dt K M H v d → Mxs K M H vs xs → Mxs K M H (v :: vs) (.dat d :: xs)
 | own {b : Addr} {vs : List V} {xs : List DV} : Mxs K M H vs xs → Mxs K M H (.ref b :: vs) (.own b :: xs)
 | mix {v : V} {ys : List DV} {vs : List V} {xs : List DV} : Mx K M H v ys → Mxs K M H vs xs → Mxs K M H (v :: vs) (.mix ys :: xs)
end
mutual
theorem Mx.step (st : Step M H M' H') : ∀ {v : V} {xs : List DV}, Mx K M H v xs → Mx K M' H' v xs
 | _, _, .mk h1 h2 h3 => .mk (st.free _ _ h1 h2) (st.keep _ _ h1 h2) (Mxs.step st h3)
theorem Mxs.step (st : Step M H M' H') : ∀ {vs : List V} {xs : List DV}, Mxs K M H vs xs → Mxs K M' H' vs xs
 | _, _, .nil => .nil
 | _, _, .dat h1 h2 => .dat (Dt.step st h1) (Mxs.step st h2)
 | _, _, .own h2 => .own (Mxs.step st h2)
 | _, _, .mix h1 h2 => .mix (Mx.step st h1) (Mxs.step st h2)
end
noncomputable def VR0 (K : PySem.W.Frag) (M : Mp) (H : Hp) (v : V) : DV → Prop
 | .dat d => Dt K M H v d
 | .own b => v = .ref b
 | .ty _ => False
 | .mix xs => Mx K M H v xs
theorem VR0.step {v : V} {x : DV} (h : VR0 K M H v x) (st : Step M H M' H') : VR0 K M' H' v x := by
 cases x with
 | dat d => exact Dt.step st h
 | own b => exact h
 | ty n => exact h
 | mix xs => exact Mx.step st h
noncomputable def OOk (K : PySem.W.Frag) (M : Mp) (H : Hp) (a : Addr) : OO → Prop
 | .lst ds => ∃ vs, H a = some (.lst vs) ∧ Dts K M H vs ds
 | .dct ks => ∃ kvs, H a = some (.dT kvs) ∧ kvs.map (·.1) = ks
 | .dtv ps => ∃ kvs, H a = some (.dT kvs) ∧ kvs.map (·.1) = ps.map (·.1) ∧ Dts K M H (kvs.map (·.2)) (ps.map (·.2))
 | .dkv ps => ∃ kvs, H a = some (.dK kvs) ∧ kvs.map (·.1) = ps.map (·.1) ∧ Dts K M H (kvs.map (·.2)) (ps.map (·.2))
 | .dko ps => ∃ kvs, H a = some (.dK kvs) ∧ Paired (fun (p : Key × V) (q : Key × DV) => p.1 = q.1 ∧ VR0 K M H p.2 q.2) kvs ps
 | .fdk o ps => ∃ kvs, H a = some (.frz o (.dK kvs)) ∧ kvs.map (·.1) = ps.map (·.1) ∧ Dts K M H (kvs.map (·.2)) (ps.map (·.2))
 | .lsv _ xs => ∃ vs, H a = some (.lst vs) ∧ Paired (VR0 K M H) vs xs
 | .ext φ => H a = some (.ext φ)
 | .gst N₀ H₀ => (∃ vs, H a = some (.lst vs) ∧ H₀ a = some (.lst vs)) ∧ ∀ b o, N₀ b → H₀ b = some o → H b = some o ∧ M b = none
theorem OOk.step {a : Addr} {o : OO} (h : OOk K M H a o) (st : Step M H M' H') (e : ∀ u, H a = some u → H' a = some u) : OOk K M' H' a o := by
 cases o with
 | lst ds => obtain ⟨vs, e1, e2⟩ := h; exact ⟨vs, e _ e1, e2.step st⟩
 | dct ks => obtain ⟨vs, e1, e2⟩ := h; exact ⟨vs, e _ e1, e2⟩
 | dtv ps => obtain ⟨vs, e1, e2, e3⟩ := h; exact ⟨vs, e _ e1, e2, e3.step st⟩
 | dkv ps => obtain ⟨vs, e1, e2, e3⟩ := h; exact ⟨vs, e _ e1, e2, e3.step st⟩
 | dko ps => obtain ⟨vs, e1, e2⟩ := h; exact ⟨vs, e _ e1, Paired.RU e2 fun _ _ z => ⟨z.1, z.2.step st⟩⟩
 | fdk o ps => obtain ⟨vs, e1, e2, e3⟩ := h; exact ⟨vs, e _ e1, e2, e3.step st⟩
 | lsv n xs => obtain ⟨vs, e1, e2⟩ := h; exact ⟨vs, e _ e1, Paired.RU e2 fun _ _ z => z.step st⟩
 | ext φ => exact e _ h
 | gst N₀ H₀ => obtain ⟨⟨u, e1, e2⟩, k⟩ := h; exact ⟨⟨u, e _ e1, e2⟩, fun b o n q => ⟨st.keep b o (k b o n q).2 (k b o n q).1, st.free b o (k b o n q).2 (k b o n q).1⟩⟩
theorem OOk.some {a : Addr} {o : OO} (h : OOk K M H a o) : ∃ u, H a = some u := by
 cases o with
 | lst ds => obtain ⟨vs, e1, _⟩ := h; exact ⟨_, e1⟩
 | dct ks => obtain ⟨vs, e1, _⟩ := h; exact ⟨_, e1⟩
 | dtv ps => obtain ⟨vs, e1, _⟩ := h; exact ⟨_, e1⟩
 | dkv ps => obtain ⟨vs, e1, _⟩ := h; exact ⟨_, e1⟩
 | dko ps => obtain ⟨vs, e1, _⟩ := h; exact ⟨_, e1⟩
 | fdk o ps => obtain ⟨vs, e1, _⟩ := h; exact ⟨_, e1⟩
 | lsv n xs => obtain ⟨vs, e1, _⟩ := h; exact ⟨_, e1⟩
 | ext φ => exact ⟨_, h⟩
 | gst N₀ H₀ => obtain ⟨⟨u, e1, _⟩, _⟩ := h; exact ⟨_, e1⟩
structure ZE (K : PySem.W.Frag) (M : Mp) (H : Hp) : Prop where
 ok : ∀ a o, M a = some o → OOk K M H a o
theorem ZE.ls (r : ZE K M H) (a : Addr) (ds : List PyData) (h : M a = some (.lst ds)) : ∃ vs, H a = some (.lst vs) ∧ Dts K M H vs ds := r.ok a _ h
theorem ZE.tracked (r : ZE K M H) {a : Addr} (h : H a = none) : M a = none := by
 cases q : M a with
 | none => rfl
 | some o =>
  obtain ⟨u, e⟩ := (r.ok a o q).some
  rw [h] at e
  cases e
theorem Step.new {p : Addr} {o : HO} (h : H p = none) : Step M H M (upd H p o) :=
 ⟨fun b u _ e => by rw [Zq (Zl e h)]; exact e, fun _ _ h _ => h⟩
theorem ZE.step_same (r : ZE K M H) (st : Step M H M H') (hk : ∀ a u, M a ≠ none → H a = some u → H' a = some u) : ZE K M H' :=
 ⟨fun a o e => (r.ok a o e).step st fun u hu => hk a u (by rw [e]; simp) hu⟩
theorem ZE.new (r : ZE K M H) {p : Addr} {o : HO} (h : H p = none) : ZE K M (upd H p o) :=
 r.step_same (Step.new h) fun a vs _ e => by rw [Zq (Zl e h)]; exact e
theorem Step.Js {p : Addr} {o : HO} {q : OO} (h : H p = none) : Step M H (ZF M p q) (upd H p o) :=
 ⟨fun b u _ e => by rw [Zq (Zl e h)]; exact e, fun b u hm e => by rw [ZV (Zl e h)]; exact hm⟩
theorem Step.Mi {p : Addr} {o : HO} {q q' : OO} (h : M p = some q) : Step M H (ZF M p q') (upd H p o) := by
 have ne : ∀ b, M b = none → b ≠ p := fun b hb e => by rw [e, h] at hb; cases hb
 exact ⟨fun b u hb e => by rw [Zq (ne b hb)]; exact e, fun b u hb e => by rw [ZV (ne b hb)]; exact hb⟩
theorem ZE.LV (r : ZE K M H) {p : Addr} {u : HO} {o : OO} (st : Step M H (ZF M p o) (upd H p u)) (h : OOk K (ZF M p o) (upd H p u) p o) : ZE K (ZF M p o) (upd H p u) := by
 refine ⟨fun a q e => ?_⟩
 by_cases ha : a = p
 ·subst ha
  rw [Qe] at e
  cases e
  exact h
 ·rw [ZV ha] at e
  exact (r.ok a q e).step st fun v hv => by rw [Zq ha]; exact hv
theorem ZE.Yh (r : ZE K M H) {p : Addr} {vs : List V} {ds : List PyData} (st : Step M H (ZF M p (.lst ds)) (upd H p (.lst vs))) (hv : Dts K M H vs ds) :
  ZE K (ZF M p (.lst ds)) (upd H p (.lst vs)) := r.LV st ⟨vs, ZT, hv.step st⟩
theorem Step.frz {p : Addr} : Step M H (V5 M p) H :=
 ⟨fun _ _ _ h => h, fun b o hb _ => by unfold V5; split <;> first | rfl | exact hb⟩
theorem ZE.frz (r : ZE K M H) {p : Addr} : ZE K (V5 M p) H := by
 refine ⟨fun a o e => ?_⟩
 have hne : a ≠ p := fun z => by rw [z, Wx] at e; cases e
 rw [YI hne] at e
 exact (r.ok a o e).step Step.frz fun _ h => h
noncomputable def Qh (K : PySem.W.Frag) (M : Mp) (H : Hp) (v : V) : DV → Prop
 | .dat d => Dt K M H v d
 | .own a => v = .ref a
 | .ty n => v = .ty n
 | .mix xs => Mx K M H v xs
theorem Qh.step {v : V} {x : DV} (h : Qh K M H v x) (st : Step M H M' H') : Qh K M' H' v x := by
 cases x with
 | dat d => exact Dt.step st h
 | own a => exact h
 | ty n => exact h
 | mix xs => exact Mx.step st h
noncomputable abbrev J8 (K : PySem.W.Frag) (M : Mp) (H : Hp) : List V → List DV → Prop := Paired (Qh K M H)
theorem J8.step {vs : List V} {xs : List DV} (h : J8 K M H vs xs) (st : Step M H M' H') : J8 K M' H' vs xs := Paired.RU h fun _ _ q => Qh.step q st
theorem J8.Zas : ∀ {vs : List V} {ds : List PyData}, J8 K M H vs (ds.map DV.dat) → Dts K M H vs ds
 | vs, [], h => by rw [List.map_nil] at h; cases h; exact .nil
 | vs, d :: ds, h => by
  rw [List.map_cons] at h
  cases h with
  | cons h1 h2 => exact .cons h1 (J8.Zas h2)
noncomputable def onV (o : Option (Option DV)) (P : DV → Prop) : Prop := match o with | some (some x) => P x | _ => False
theorem LL {o : Option (Option DV)} {P : DV → Prop} (h : onV o P) : ∃ x, o = some (some x) ∧ P x := by
 unfold onV at h
 split at h
 ·exact ⟨_, rfl, h⟩
 ·exact h.elim
noncomputable def onI (x : DV) (P : Int → Prop) : Prop := match x with | .dat (.int i) => P i | _ => False
theorem ZP {x : DV} {P : Int → Prop} (h : onI x P) : ∃ i, x = .dat (.int i) ∧ P i := by
 unfold onI at h
 split at h
 ·exact ⟨_, rfl, h⟩
 ·exact h.elim
noncomputable def onB (x : DV) (P : Bool → Prop) : Prop := match x with | .dat (.bool i) => P i | _ => False
theorem Xr {x : DV} {P : Bool → Prop} (h : onB x P) : ∃ i, x = .dat (.bool i) ∧ P i := by
 unfold onB at h
 split at h
 ·exact ⟨_, rfl, h⟩
 ·exact h.elim
noncomputable def onS (x : DV) (P : Str → Prop) : Prop := match x with | .dat (.str i) => P i | _ => False
theorem B5 {x : DV} {P : Str → Prop} (h : onS x P) : ∃ i, x = .dat (.str i) ∧ P i := by
 unfold onS at h
 split at h
 ·exact ⟨_, rfl, h⟩
 ·exact h.elim
noncomputable def onT (x : DV) (P : List PyData → Prop) : Prop := match x with | .dat (.tuple i) => P i | _ => False
theorem Vr {x : DV} {P : List PyData → Prop} (h : onT x P) : ∃ i, x = .dat (.tuple i) ∧ P i := by
 unfold onT at h
 split at h
 ·exact ⟨_, rfl, h⟩
 ·exact h.elim
noncomputable def onL (x : DV) (P : List PyData → Prop) : Prop := match x with | .dat (.list i) => P i | _ => False
theorem Ra {x : DV} {P : List PyData → Prop} (h : onL x P) : ∃ i, x = .dat (.list i) ∧ P i := by
 unfold onL at h
 split at h
 ·exact ⟨_, rfl, h⟩
 ·exact h.elim
noncomputable def onD (x : DV) (P : PyData → Prop) : Prop := match x with | .dat i => P i | _ => False
theorem Qa {x : DV} {P : PyData → Prop} (h : onD x P) : ∃ i, x = .dat i ∧ P i := by
 unfold onD at h
 split at h
 ·exact ⟨_, rfl, h⟩
 ·exact h.elim
noncomputable def onO (x : DV) (P : Addr → Prop) : Prop := match x with | .own i => P i | _ => False
theorem Jk {x : DV} {P : Addr → Prop} (h : onO x P) : ∃ i, x = .own i ∧ P i := by
 unfold onO at h
 split at h
 ·exact ⟨_, rfl, h⟩
 ·exact h.elim
noncomputable def Vg (o : Option OO) (P : List PyData → Prop) : Prop := match o with | some (.lst ds) => P ds | _ => False
theorem Jv {o : Option OO} {P : List PyData → Prop} (h : Vg o P) : ∃ ds, o = some (.lst ds) ∧ P ds := by
 unfold Vg at h
 split at h
 ·exact ⟨_, rfl, h⟩
 ·exact h.elim
noncomputable def MJ (o : Option OO) (P : List (List Key) → Prop) : Prop := match o with | some (.dct ks) => P ks | _ => False
noncomputable def onQ (x : DV) (M : Mp) (P : List PyData → Prop) : Prop := match x with | .dat (.tuple ds) => P ds | .dat (.list ds) => P ds | .own l => Vg (M l) P | _ => False
theorem Gh {x : DV} {M : Mp} {P : List PyData → Prop} (h : onQ x M P) : ∃ ds, (x = .dat (.tuple ds) ∨ x = .dat (.list ds) ∨ ∃ l, x = .own l ∧ M l = some (.lst ds)) ∧ P ds := by
 unfold onQ at h
 split at h
 ·exact ⟨_, .inl rfl, h⟩
 ·exact ⟨_, .inr (.inl rfl), h⟩
 ·replace h := Jv h
  obtain ⟨ds, e, h⟩ := h
  exact ⟨ds, .inr (.inr ⟨_, rfl, e⟩), h⟩
 ·exact h.elim
noncomputable def onK (x : DV) (M : Mp) (P : List PyData → Prop) : Prop := match x with | .dat (.list ds) => P ds | .own l => Vg (M l) P | _ => False
theorem U5 {x : DV} {M : Mp} {P : List PyData → Prop} (h : onK x M P) : ∃ ds, (x = .dat (.list ds) ∨ ∃ l, x = .own l ∧ M l = some (.lst ds)) ∧ P ds := by
 unfold onK at h
 split at h
 ·exact ⟨_, .inl rfl, h⟩
 ·replace h := Jv h
  obtain ⟨ds, e, h⟩ := h
  exact ⟨ds, .inr ⟨_, rfl, e⟩, h⟩
 ·exact h.elim
noncomputable def on1 (xs : List DV) (P : DV → Prop) : Prop := match xs with | [x] => P x | _ => False
theorem Zx {xs : List DV} {P : DV → Prop} (h : on1 xs P) : ∃ x, xs = [x] ∧ P x := by
 unfold on1 at h
 split at h
 ·exact ⟨_, rfl, h⟩
 ·exact h.elim
noncomputable def on2 (xs : List DV) (P : DV → DV → Prop) : Prop := match xs with | [x, y] => P x y | _ => False
theorem QB {xs : List DV} {P : DV → DV → Prop} (h : on2 xs P) : ∃ x y, xs = [x, y] ∧ P x y := by
 unfold on2 at h
 split at h
 ·exact ⟨_, _, rfl, h⟩
 ·exact h.elim
noncomputable def on3 (xs : List DV) (P : DV → DV → DV → Prop) : Prop := match xs with | [x, y, z] => P x y z | _ => False
theorem YQ {xs : List DV} {P : DV → DV → DV → Prop} (h : on3 xs P) : ∃ x y z, xs = [x, y, z] ∧ P x y z := by
 unfold on3 at h
 split at h
 ·exact ⟨_, _, _, rfl, h⟩
 ·exact h.elim
noncomputable def on4 (xs : List DV) (P : DV → DV → DV → DV → Prop) : Prop := match xs with | [x0, x1, x2, x3] => P x0 x1 x2 x3 | _ => False
noncomputable def on5 (xs : List DV) (P : DV → DV → DV → DV → DV → Prop) : Prop := match xs with | [x0, x1, x2, x3, x4] => P x0 x1 x2 x3 x4 | _ => False
noncomputable def on6 (xs : List DV) (P : DV → DV → DV → DV → DV → DV → Prop) : Prop := match xs with | [x0, x1, x2, x3, x4, x5] => P x0 x1 x2 x3 x4 x5 | _ => False
noncomputable def E5 : List DV → Option (List PyData)
 | [] => some []
 | .dat d :: r => match E5 r with | some ds => some (d :: ds) | none => none
 | _ :: _ => none
theorem Gs : ∀ {xs : List DV} {ds : List PyData}, E5 xs = some ds → xs = ds.map DV.dat
 | [], _, h => by cases h; rfl
 | .dat d :: r, ds, h => by
  rw [E5] at h
  split at h
  ·rename_i es e
   cases h
   rw [List.map_cons, ← Gs e]
  ·cases h
 | .own _ :: _, _, h => by cases h
 | .ty _ :: _, _, h => by cases h
 | .mix _ :: _, _, h => by cases h
noncomputable def Yy (xs : List DV) (P : List PyData → Prop) : Prop := match Nat.ble xs.length 100 with
 | true => (match E5 xs with | some ds => P ds | none => False)
 | false => False
theorem Uu {xs : List DV} {P : List PyData → Prop} (h : Yy xs P) : ∃ ds, xs = ds.map DV.dat ∧ ds.length ≤ 100 ∧ P ds := by
 unfold Yy at h
 split at h
 ·rename_i e
  split at h
  ·rename_i ds e2
   have e3 := Gs e2
   refine ⟨ds, e3, ?_, h⟩
   have e4 := Nat.le_of_ble_eq_true e
   rwa [e3, List.length_map] at e4
  ·exact h.elim
 ·exact h.elim
noncomputable abbrev DSt := List (Option DV)
structure QD (K : PySem.W.Frag) (M : Mp) (H : Hp) (σ : L2.St) (Δ : DSt) : Prop where
 len : σ.length = Δ.length
 at' : ∀ (i : Nat) (x : DV), Δ[i]? = some (some x) → ∃ v, σ[i]? = some (some v) ∧ Qh K M H v x
theorem QD.step {σ : L2.St} {Δ : DSt} (h : QD K M H σ Δ) (st : Step M H M' H') : QD K M' H' σ Δ :=
 ⟨h.len, fun i x e => let ⟨v, e1, e2⟩ := h.at' i x e; ⟨v, e1, e2.step st⟩⟩
theorem QD.set {σ : L2.St} {Δ : DSt} {i : Nat} {v : V} {x : DV} (h : QD K M H σ Δ) (r : Qh K M H v x) : QD K M H (σ.set i (some v)) (Δ.set i (some x)) := by
 refine ⟨by rw [List.length_set, List.length_set, h.len], fun j y e => ?_⟩
 by_cases hj : i = j
 ·subst hj
  by_cases hl : i < Δ.length
  ·rw [List.getElem?_set_self hl] at e
   cases e
   exact ⟨v, List.getElem?_set_self (by rw [h.len]; exact hl), r⟩
  ·rw [List.getElem?_eq_none (by rw [List.length_set]; omega)] at e
   cases e
 ·rw [List.getElem?_set_ne hj] at e
  rw [List.getElem?_set_ne hj]
  exact h.at' j y e
noncomputable def JU (N : List Str) (xs : List DV) : DSt := xs.map some ++ List.replicate (N.length - xs.length) none
theorem Paired.Za7 {α β : Type} {F : α → β → Prop} : ∀ {l : List α} {m : List β} {i : Nat} {b : β}, Paired F l m → m[i]? = some b → ∃ a, l[i]? = some a ∧ F a b
 | _, _, _, _, .nil, e => by simp at e
 | _, _, 0, _, .cons h _, e => by simp at e; subst e; exact ⟨_, rfl, h⟩
 | _, _, i + 1, b, .cons _ h, e => by
  obtain ⟨a, h1, h2⟩ := Paired.Za7 (i := i) (b := b) h (by simpa using e)
  exact ⟨a, by simpa using h1, h2⟩
theorem QD.start {N : List Str} {vs : List V} {xs : List DV} (h : J8 K M H vs xs) : QD K M H (start N vs) (JU N xs) := by
 have hl : vs.length = xs.length := Paired.length h
 refine ⟨by unfold L2.start JU; simp [hl], fun i x e => ?_⟩
 unfold JU at e
 unfold L2.start
 by_cases hi : i < xs.length
 ·rw [List.getElem?_append_left (by simpa using hi), List.getElem?_map] at e
  cases q : xs[i]? with
  | none => rw [q] at e; cases e
  | some y =>
   rw [q] at e
   cases e
   obtain ⟨v, h1, h2⟩ := Paired.Za7 h q
   exact ⟨v, by rw [List.getElem?_append_left (by simpa [hl] using hi), List.getElem?_map, h1]; rfl, h2⟩
 ·rw [List.getElem?_append_right (by simpa using hi), List.getElem?_replicate] at e
  split at e <;> cases e
end
noncomputable abbrev DK := DV → Mp → Prop
noncomputable abbrev DTE := DSt → Mp → DK → Prop
noncomputable abbrev DTT := DSt → Mp → (Bool → Mp → Prop) → Prop
noncomputable abbrev DTA := DSt → Mp → (List DV → Mp → Prop) → Prop
structure Qf where
 nx : DSt → Mp → Prop
 rt : DK
 bk : DSt → Mp → Prop := fun _ _ => False
 ct : DSt → Mp → Prop := fun _ _ => False
noncomputable abbrev DTS := Qf → DSt → Mp → Prop
noncomputable def Rch (K : PySem.W.Frag) (M : Mp) (H : Hp) (Φ : DK) (Q : VK) : Prop := ∀ v H' x M', ZE K M' H' → Step M H M' H' → Qh K M' H' v x → Φ x M' → Q v H'
theorem Rch.step {K : PySem.W.Frag} {M M' : Mp} {H H' : Hp} {Φ : DK} {Q : VK} (h : Rch K M H Φ Q) (st : Step M H M' H') : Rch K M' H' Φ Q := fun v H2 x M2 r s2 q f => h v H2 x M2 r (st.trans s2) q f
theorem Rch.dat {K : PySem.W.Frag} {M M' : Mp} {H H' : Hp} {Φ : DK} {Q : VK} {v : V} {d : PyData} (h : Rch K M H Φ Q) (r : ZE K M' H') (st : Step M H M' H') (hd : Dt K M' H' v d) (f : Φ (.dat d) M') : Q v H' := h v H' (.dat d) M' r st hd f
noncomputable def DE (X : Cx) (e : Expr) (τ : DTE) : Prop := ∃ t, PE X e t ∧ ∀ σ H Δ M Φ Q, ZE X.K M H → QD X.K M H σ Δ → τ Δ M Φ → Rch X.K M H Φ Q → t σ H Q
noncomputable def DT (X : Cx) (e : Expr) (τ : DTT) : Prop := ∃ t, PT X e t ∧ ∀ σ H Δ M Φ (Q : Bool → Hp → Prop), ZE X.K M H → QD X.K M H σ Δ → τ Δ M Φ →
 (∀ b H' M', ZE X.K M' H' → Step M H M' H' → Φ b M' → Q b H') → t σ H Q
noncomputable def DW (X : Cx) (e : Expr) (τ : DTT) : Prop := ∃ t, PW X e t ∧ ∀ σ H Δ M Φ (Q : Bool → Hp → Prop), ZE X.K M H → QD X.K M H σ Δ → τ Δ M Φ →
 (∀ b H' M', ZE X.K M' H' → Step M H M' H' → Φ b M' → Q b H') → t σ H Q
noncomputable def DA (X : Cx) (es : List Expr) (τ : DTA) : Prop := ∃ t, PA X es t ∧ ∀ σ H Δ M Φ (Q : List V → Hp → Prop), ZE X.K M H → QD X.K M H σ Δ → τ Δ M Φ →
 (∀ vs H' xs M', ZE X.K M' H' → Step M H M' H' → J8 X.K M' H' vs xs → Φ xs M' → Q vs H') → t σ H Q
structure Yv (K : PySem.W.Frag) (M : Mp) (H : Hp) (D : Qf) (E : Ends) : Prop where
 nx : ∀ σ' H' Δ' M', ZE K M' H' → Step M H M' H' → QD K M' H' σ' Δ' → D.nx Δ' M' → E.nx σ' H'
 rt : Rch K M H D.rt E.rt
 bk : ∀ σ' H' Δ' M', ZE K M' H' → Step M H M' H' → QD K M' H' σ' Δ' → D.bk Δ' M' → E.bk σ' H'
 ct : ∀ σ' H' Δ' M', ZE K M' H' → Step M H M' H' → QD K M' H' σ' Δ' → D.ct Δ' M' → E.ct σ' H'
theorem Yv.step {K : PySem.W.Frag} {M M' : Mp} {H H' : Hp} {D : Qf} {E : Ends} (h : Yv K M H D E) (st : Step M H M' H') : Yv K M' H' D E :=
 ⟨fun a b c d r s => h.nx a b c d r (st.trans s), h.rt.step st, fun a b c d r s => h.bk a b c d r (st.trans s), fun a b c d r s => h.ct a b c d r (st.trans s)⟩
noncomputable def DS (X : Cx) (st : Stmt) (τ : DTS) : Prop := ∃ t, PS X st t ∧ ∀ σ H Δ M D E, ZE X.K M H → QD X.K M H σ Δ → τ D Δ M → Yv X.K M H D E → t E σ H
noncomputable def DSs (X : Cx) (st : List Stmt) (τ : DTS) : Prop := ∃ t, PSs X st t ∧ ∀ σ H Δ M D E, ZE X.K M H → QD X.K M H σ Δ → τ D Δ M → Yv X.K M H D E → t E σ H
section
variable {X : Cx} {a b c : Expr} {ta tb tc : DTE} {pos : Pos}
noncomputable def Zbg (i : Nat) : DTE := fun Δ M Φ => onV Δ[i]? fun x => Φ x M
noncomputable def dC (d : PyData) : DTE := fun _ M Φ => Φ (.dat d) M
theorem Zb (i : Nat) {x : Str} {pos : Pos} (hN : X.N[i]? = some x := by rfl) (hv : Vis X.env.scope x := by first | exact Or.inl rfl | exact Or.inr (Or.inl rfl) | exact Or.inr (Or.inr rfl)) (hd : (x == ("__debug__" : Str)) = false := by decide)
  (hcd : (x == ("__classdict__" : Str)) = false := by decide) : DE X (.Name x pos) (Zbg i) := by
 refine ⟨_, C5 hN hv hd hcd, fun σ H Δ M Φ Q r e h k => ?_⟩
 replace h := LL h
 obtain ⟨x, e1, h⟩ := h
 obtain ⟨v, e2, q⟩ := e.at' i x e1
 exact ⟨v, e2, k v H x M r Step.refl q h⟩
theorem Vi {e : Expr} {v : V} {d : PyData} (h : PE X e (tC v)) (q : ∀ M H, Dt X.K M H v d) : DE X e (dC d) :=
 ⟨_, h, fun _ H _ M _ _ r _ h k => k v H (.dat d) M r Step.refl (q M H) h⟩
theorem Zd {i j pos} : DE X (.Constant (.int i) j pos) (dC (.int i)) := Vi Mf fun _ _ => .int i
theorem JQ {b j pos} : DE X (.Constant (.bool b) j pos) (dC (.bool b)) := Vi ZbL fun _ _ => .bl b
theorem U7 {j pos} : DE X (.Constant .none j pos) (dC .none) := Vi RG fun _ _ => .non
theorem VO {x j pos} : DE X (.Constant (.str x) j pos) (dC (.str x)) := Vi RT fun _ _ => .str x
theorem Kt {x : Str} {i : Int} {t : Tok} {pos : Pos} (hg : Gl X x) (hm : X.mg x = some (.int i t)) (hd : (x == ("__debug__" : Str)) = false := by decide) : DE X (.Name x pos) (dC (.int i)) :=
 Vi (UZ (v := .int i) hg hm ⟨t, rfl⟩ hd) fun _ _ => .int i
noncomputable def dTy (n : String) : DTE := fun _ M Φ => Φ (.ty n) M
theorem Ba {x : Str} {n : String} {pos : Pos} (hg : Gl X x) (hm : X.mg x = none) (hv : bootBuiltins x = some (.type n)) (hn : x ≠ "__name__" := by decide) (hdb : (x == ("__debug__" : Str)) = false := by decide) : DE X (.Name x pos) (dTy n) :=
 ⟨_, U1 (v := .ty n) hg hm hv rfl hn hdb, fun _ H _ M _ _ r _ h k => k (.ty n) H (.ty n) M r Step.refl rfl h⟩
end
end DL
namespace DL
open PySem PySem.Spec PyProof.Rows L2
section
variable {K : PySem.W.Frag} {M M' : Mp} {H H' : Hp} {v : V}
theorem Qh.bool {b : Bool} (h : Qh K M H v (.dat (.bool b))) : v = .bl b := by cases (show Dt K M H v (.bool b) from h); rfl
theorem Qh.int {i : Int} (h : Qh K M H v (.dat (.int i))) : v = .int i := by cases (show Dt K M H v (.int i) from h); rfl
theorem Qh.str {x : Str} (h : Qh K M H v (.dat (.str x))) : v = .str x := by cases (show Dt K M H v (.str x) from h); rfl
theorem Qh.tup {ds : List PyData} (h : Qh K M H v (.dat (.tuple ds))) : ∃ a xs, v = .ref a ∧ TupAt K M H a xs ∧ Dts K M H xs ds := by
 cases (show Dt K M H v (.tuple ds) from h) with
 | tup h1 h2 => exact ⟨_, _, rfl, h1, h2⟩
theorem Qh.lst {ds : List PyData} (h : Qh K M H v (.dat (.list ds))) : ∃ a xs, v = .ref a ∧ LstAt K M H a xs ∧ Dts K M H xs ds := by
 cases (show Dt K M H v (.list ds) from h) with
 | lst h1 h2 => exact ⟨_, _, rfl, h1, h2⟩
theorem Dt.Xp {p : Addr} {xs : List V} {ds : List PyData} (r : ZE K M H) (hp : H p = none) (h : Dts K M H xs ds) : Dt K M (upd H p (.tup xs)) (.ref p) (.tuple ds) :=
 .tup (.inl ⟨r.tracked hp, .inl ZT⟩) (h.step (Step.new hp))
theorem Dt.VS {p : Addr} {xs : List V} {ds : List PyData} (r : ZE K M H) (hp : H p = none) (h : Dts K M H xs ds) : Dt K M (upd H p (.lst xs)) (.ref p) (.list ds) :=
 .lst (.inl ⟨r.tracked hp, .inl ZT⟩) (h.step (Step.new hp))
end
noncomputable def Snd (K : PySem.W.Frag) (t : TE) (τ : DTE) : Prop := ∀ σ H Δ M Φ Q, ZE K M H → QD K M H σ Δ → τ Δ M Φ → Rch K M H Φ Q → t σ H Q
theorem Snd.bin {K : PySem.W.Frag} {ta tb : TE} {τa τb : DTE} (qa : Snd K ta τa) (qb : Snd K tb τb) {M : Mp} {H : Hp} {σ : L2.St} {Δ : DSt} {S : DV → DV → Mp → Prop} {R : V → V → Hp → Prop} (r : ZE K M H) (e : QD K M H σ Δ)
  (h : τa Δ M fun x M1 => τb Δ M1 fun y M2 => S x y M2)
  (k : ∀ v u H2 x y M2, ZE K M2 H2 → Step M H M2 H2 → Qh K M2 H2 v x → Qh K M2 H2 u y → S x y M2 → R v u H2) : ta σ H fun v H1 => tb σ H1 fun u H2 => R v u H2 :=
 qa σ H Δ M _ _ r e h fun v H1 x M1 r1 st rv hx => qb σ H1 Δ M1 _ _ r1 (e.step st) hx fun u H2 y M2 r2 st2 ru hy => k v u H2 x y M2 r2 (st.trans st2) (rv.step st2) ru hy
noncomputable abbrev D2 := DV → DV → Mp → DK → Prop
noncomputable def OpD (X : Cx) (f : Value → Value → Sem Value) (δ : D2) : Prop := ∃ r : R2, OpR X f r ∧ ∀ v u H x y M Φ Q, ZE X.K M H → Qh X.K M H v x → Qh X.K M H u y → δ x y M Φ → Rch X.K M H Φ Q → r v u H Q
noncomputable def dOp (δ : D2) (ta tb : DTE) : DTE := fun Δ M Φ => ta Δ M fun x M1 => tb Δ M1 fun y M2 => δ x y M2 Φ
section
variable {X : Cx} {a b c : Expr} {ta tb tc : DTE} {pos : Pos} {op op' : CmpOp} {δ δ' : D2}
theorem Snd.opn {ta' tb' : TE} {r : R2} (ha : Snd X.K ta' ta) (hb : Snd X.K tb' tb) (q : ∀ v u H x y M Φ Q, ZE X.K M H → Qh X.K M H v x → Qh X.K M H u y → δ x y M Φ → Rch X.K M H Φ Q → r v u H Q) : Snd X.K (tOp r ta' tb') (dOp δ ta tb) :=
 fun _ _ _ _ _ _ dr e h k => Snd.bin ha hb dr e h fun v u H2 x y M2 r2 st rv ru hs => q v u H2 x y M2 _ _ r2 rv ru hs (k.step st)
theorem Zj {bop : Operator} (ho : OpD X (binaryOp bop) δ) (ha : DE X a ta) (hb : DE X b tb) : DE X (.BinOp a bop b pos) (dOp δ ta tb) := by
 obtain ⟨ta', pa, qa⟩ := ha
 obtain ⟨tb', pb, qb⟩ := hb
 obtain ⟨r, hr, q⟩ := ho
 exact ⟨_, Zcy hr pa pb, Snd.opn qa qb q⟩
theorem U9 (ho : OpD X (compareOp op) δ) (ha : DE X a ta) (hb : DE X b tb) (hm : behindInMarks op b = false := by first | exact L7 _ | rfl) : DE X (.Compare a [op] [b] pos) (dOp δ ta tb) := by
 obtain ⟨ta', pa, qa⟩ := ha
 obtain ⟨tb', pb, qb⟩ := hb
 obtain ⟨r, hr, q⟩ := ho
 exact ⟨_, NL hr pa pb hm, Snd.opn qa qb q⟩
noncomputable def dB (t : DTE) : DTT := fun Δ M Φ => t Δ M fun x M1 => onB x fun c => Φ c M1
theorem Snd.test {t : TE} {τ : DTE} (h : Snd X.K t τ) {σ : L2.St} {H : Hp} {Δ : DSt} {M : Mp} {Φ : Bool → Mp → Prop} {Q : Bool → Hp → Prop} (r : ZE X.K M H) (e : QD X.K M H σ Δ) (hw : dB τ Δ M Φ)
  (k : ∀ b H' M', ZE X.K M' H' → Step M H M' H' → Φ b M' → Q b H') : t σ H fun x H1 => ∃ c, x = .bl c ∧ Q c H1 := by
 refine h σ H Δ M _ _ r e hw fun v H1 x M1 r1 st rv hx => ?_
 replace hx := Xr hx
 obtain ⟨c, rfl, hx⟩ := hx
 exact ⟨c, rv.bool, k c H1 M1 r1 st hx⟩
theorem Qj (ho : OpD X (compareOp op) δ) (ha : DE X a ta) (hb : DE X b tb) (hm : behindInMarks op b = false := by first | exact L7 _ | rfl) : DT X (.Compare a [op] [b] pos) (dB (dOp δ ta tb)) := by
 obtain ⟨ta', pa, qa⟩ := ha
 obtain ⟨tb', pb, qb⟩ := hb
 obtain ⟨r, hr, q⟩ := ho
 exact ⟨_, OC hr pa pb hm, fun _ _ _ _ _ _ dr e h k => Snd.test (Snd.opn qa qb q) dr e h k⟩
theorem Xo {e : Expr} {τ : DTE} (h : DE X e τ) (he : ∀ whole, isTrue e X.env whole = (do let v ← whole; standAt e.pos; holding [v] (truthy v)) := by intro _; rfl) : DT X e (dB τ) := by
 obtain ⟨t, p, q⟩ := h
 exact ⟨_, S7 p he, fun _ _ _ _ _ _ dr e h k => Snd.test q dr e h k⟩
noncomputable def GI (δ δ' : D2) (ta tb tc : DTE) : DTE := fun Δ M Φ => ta Δ M fun x M1 => tb Δ M1 fun y M2 => δ x y M2 fun z M3 => onB z fun k => (if k = true then tc Δ M3 fun w' M4 => δ' y w' M4 Φ else Φ (.dat (.bool false)) M3)
theorem Snd.chain {ta' tb' tc' : TE} {r r' : R2} (ha : Snd X.K ta' ta) (hb : Snd X.K tb' tb) (hc : Snd X.K tc' tc) (q : ∀ v u H x y M Φ Q, ZE X.K M H → Qh X.K M H v x → Qh X.K M H u y → δ x y M Φ → Rch X.K M H Φ Q → r v u H Q)
  (q' : ∀ v u H x y M Φ Q, ZE X.K M H → Qh X.K M H v x → Qh X.K M H u y → δ' x y M Φ → Rch X.K M H Φ Q → r' v u H Q) : Snd X.K (Cb r r' ta' tb' tc') (GI δ δ' ta tb tc) := by
 intro σ H Δ M Φ Q dr e h k
 refine Snd.bin ha hb dr e h fun v u H2 x y M2 r2 st rv ru hs => ?_
 refine q v u H2 x y M2 _ _ r2 rv ru hs fun z H3 zd M3 r3 st3 rz hz => ?_
 replace hz := Xr hz
 obtain ⟨kb, rfl, hz⟩ := hz
 refine ⟨kb, rz.bool, ?_⟩
 cases kb with
 | true =>
  have hz' : tc Δ M3 fun w' M4 => δ' y w' M4 Φ := by simpa using hz
  rw [if_pos rfl]
  refine hc σ H3 Δ M3 _ _ r3 (e.step (st.trans st3)) hz' fun w' H4 wd M4 r4 st4 rw4 hw4 => ?_
  exact q' u w' H4 y wd M4 _ _ r4 (ru.step (st3.trans st4)) rw4 hw4 (k.step (st.trans (st3.trans st4)))
 | false =>
  have hz' : Φ (.dat (.bool false)) M3 := by simpa using hz
  rw [if_neg Bool.false_ne_true]
  exact k.dat r3 (st.trans st3) (Dt.bl false) hz'
theorem Fy (ho : OpD X (compareOp op) δ) (ho' : OpD X (compareOp op') δ') (ha : DE X a ta) (hb : DE X b tb) (hc : DE X c tc) (hm : lastMarks [op, op'] [b, c] = false := by with_unfolding_all rfl) :
  DE X (.Compare a [op, op'] [b, c] pos) (GI δ δ' ta tb tc) := by
 obtain ⟨ta', pa, qa⟩ := ha
 obtain ⟨tb', pb, qb⟩ := hb
 obtain ⟨tc', pc, qc⟩ := hc
 obtain ⟨r, hr, q⟩ := ho
 obtain ⟨r', hr', q'⟩ := ho'
 exact ⟨_, HI hr hr' pa pb pc hm, Snd.chain qa qb qc q q'⟩
theorem Lc (ho : OpD X (compareOp op) δ) (ho' : OpD X (compareOp op') δ') (ha : DE X a ta) (hb : DE X b tb) (hc : DE X c tc) (hm : lastMarks [op, op'] [b, c] = false := by with_unfolding_all rfl) :
  DT X (.Compare a [op, op'] [b, c] pos) (dB (GI δ δ' ta tb tc)) := by
 obtain ⟨ta', pa, qa⟩ := ha
 obtain ⟨tb', pb, qb⟩ := hb
 obtain ⟨tc', pc, qc⟩ := hc
 obtain ⟨r, hr, q⟩ := ho
 obtain ⟨r', hr', q'⟩ := ho'
 exact ⟨_, ER hr hr' pa pb pc hm, fun _ _ _ _ _ _ dr e h k => Snd.test (Snd.chain qa qb qc q q') dr e h k⟩
variable {tA tB' : DTT} {rest : List Expr}
noncomputable def Zd5 (t u : DTT) : DTT := fun Δ M Φ => t Δ M fun c M1 => if c = true then u Δ M1 Φ else Φ false M1
noncomputable def dOr (t u : DTT) : DTT := fun Δ M Φ => t Δ M fun c M1 => if c = true then Φ true M1 else u Δ M1 Φ
noncomputable def Zda (t : DTT) : DTT := fun Δ M Φ => t Δ M fun c M1 => Φ (!c) M1
theorem DW.dt {e : Expr} {τ : DTT} (h : DW X e τ) : DT X e τ := by
 obtain ⟨t, p, q⟩ := h
 exact ⟨t, p.pt, q⟩
theorem C8 (ha : DT X a tA) : DW X (.BoolOp .And [a] pos) tA := by
 obtain ⟨t, p, q⟩ := ha
 exact ⟨t, ON p, q⟩
theorem GJ (ha : DT X a tA) : DW X (.BoolOp .Or [a] pos) tA := by
 obtain ⟨t, p, q⟩ := ha
 exact ⟨t, PN p, q⟩
theorem Ma (ha : DT X a tA) (hb : DW X (.BoolOp .And (b :: rest) pos) tB') : DW X (.BoolOp .And (a :: b :: rest) pos) (Zd5 tA tB') := by
 obtain ⟨t, p, q⟩ := ha
 obtain ⟨u, p2, q2⟩ := hb
 refine ⟨_, So p p2, fun σ H Δ M Φ Q r e h k => ?_⟩
 refine q σ H Δ M _ _ r e h fun c H1 M1 r1 st hc => ?_
 cases c with
 | true => rw [if_pos rfl]; exact q2 σ H1 Δ M1 Φ Q r1 (e.step st) (by simpa using hc) fun b H2 M2 r2 st2 hb => k b H2 M2 r2 (st.trans st2) hb
 | false => rw [if_neg Bool.false_ne_true]; exact k false H1 M1 r1 st (by simpa using hc)
theorem C0 (ha : DT X a tA) (hb : DW X (.BoolOp .Or (b :: rest) pos) tB') : DW X (.BoolOp .Or (a :: b :: rest) pos) (dOr tA tB') := by
 obtain ⟨t, p, q⟩ := ha
 obtain ⟨u, p2, q2⟩ := hb
 refine ⟨_, Zb5 p p2, fun σ H Δ M Φ Q r e h k => ?_⟩
 refine q σ H Δ M _ _ r e h fun c H1 M1 r1 st hc => ?_
 cases c with
 | false => rw [if_neg Bool.false_ne_true]; exact q2 σ H1 Δ M1 Φ Q r1 (e.step st) (by simpa using hc) fun b H2 M2 r2 st2 hb => k b H2 M2 r2 (st.trans st2) hb
 | true => rw [if_pos rfl]; exact k true H1 M1 r1 st (by simpa using hc)
theorem Xn (ha : DT X a tA) : DT X (.UnaryOp .Not a pos) (Zda tA) := by
 obtain ⟨t, p, q⟩ := ha
 exact ⟨_, PF p, fun σ H Δ M Φ Q r e h k => q σ H Δ M _ _ r e h fun c H1 M1 r1 st hc => k _ H1 M1 r1 st hc⟩
noncomputable def Tw (ta tb : DTE) : DTE := fun Δ M Φ => ta Δ M fun x M1 => onB x fun c => if c = true then tb Δ M1 Φ else Φ (.dat (.bool false)) M1
noncomputable def Zed (ta tb : DTE) : DTE := fun Δ M Φ => ta Δ M fun x M1 => onB x fun c => if c = true then Φ (.dat (.bool true)) M1 else tb Δ M1 Φ
noncomputable def T6 (ta : DTE) : DTE := fun Δ M Φ => ta Δ M fun x M1 => onB x fun c => Φ (.dat (.bool (!c))) M1
theorem VP {bop} (h : DE X a ta) : DE X (.BoolOp bop [a] pos) ta := by
 obtain ⟨t, p, q⟩ := h
 exact ⟨t, RH p, q⟩
theorem Jh (ha : DE X a ta) (hb : DE X (.BoolOp .And (b :: rest) pos) tb) : DE X (.BoolOp .And (a :: b :: rest) pos) (Tw ta tb) := by
 obtain ⟨t, p, q⟩ := ha
 obtain ⟨u, p2, q2⟩ := hb
 refine ⟨_, Tb p p2, fun σ H Δ M Φ Q r e h k => ?_⟩
 refine q σ H Δ M _ _ r e h fun v H1 x M1 r1 st rv hx => ?_
 replace hx := Xr hx
 obtain ⟨c, rfl, hx⟩ := hx
 refine ⟨c, rv.bool, ?_⟩
 cases c with
 | true => rw [if_pos rfl]; exact q2 σ H1 Δ M1 Φ Q r1 (e.step st) (by simpa using hx) (k.step st)
 | false => rw [if_neg Bool.false_ne_true]; exact k.dat r1 st (Dt.bl false) (by simpa using hx)
theorem Zaf (ha : DE X a ta) : DE X (.UnaryOp .Not a pos) (T6 ta) := by
 obtain ⟨t, p, q⟩ := ha
 refine ⟨_, Tv p, fun σ H Δ M Φ Q r e h k => ?_⟩
 refine q σ H Δ M _ _ r e h fun v H1 x M1 r1 st rv hx => ?_
 replace hx := Xr hx
 obtain ⟨c, rfl, hx⟩ := hx
 exact ⟨c, rv.bool, k.dat r1 st (Dt.bl (!c)) hx⟩
noncomputable def dIf (t : DTT) (ta tb : DTE) : DTE := fun Δ M Φ => t Δ M fun c M1 => if c = true then ta Δ M1 Φ else tb Δ M1 Φ
noncomputable def ZdQ (g : Int → Int) (ta : DTE) : DTE := fun Δ M Φ => ta Δ M fun x M1 => onI x fun i => Φ (.dat (.int (g i))) M1
theorem VM (ha : DE X a ta) : DE X (.UnaryOp .USub a pos) (ZdQ (fun i => -i) ta) := by
 obtain ⟨t, p, q⟩ := ha
 refine ⟨_, Za9 Sq p, fun σ H Δ M Φ Q r e h k => ?_⟩
 refine q σ H Δ M _ _ r e h fun v H1 x M1 r1 st rv hx => ?_
 replace hx := ZP hx
 obtain ⟨i, rfl, hx⟩ := hx
 exact ⟨i, rv.int, k.dat r1 st (Dt.int (-i)) hx⟩
noncomputable def δI (C : Int → Int → Prop) (g : Int → Int → PyData) : D2 := fun x y M Φ => onI x fun i => onI y fun j => C i j ∧ Φ (.dat (g i j)) M
noncomputable def δI0 (g : Int → Int → PyData) : D2 := fun x y M Φ => onI x fun i => onI y fun j => Φ (.dat (g i j)) M
theorem Zam {f : Value → Value → Sem Value} {C : Int → Int → Prop} {g : Int → Int → Int} (h : OpR X f (rI C fun i j => .int (g i j))) : OpD X f (δI C fun i j => .int (g i j)) :=
 ⟨_, h, fun v u H x y M Φ Q r rv ru h k => by
  replace h := ZP h
  obtain ⟨i, e1, h⟩ := h
  replace h := ZP h
  obtain ⟨j, e2, hc, q⟩ := h
  subst e1 e2
  exact ⟨i, j, rv.int, ru.int, hc, k.dat r Step.refl (Dt.int _) q⟩⟩
theorem Rx {f : Value → Value → Sem Value} {g : Int → Int → Int} (h : OpR X f (rI0 fun i j => .int (g i j))) : OpD X f (δI0 fun i j => .int (g i j)) :=
 ⟨_, h, fun v u H x y M Φ Q r rv ru h k => by
  replace h := ZP h
  obtain ⟨i, e1, h⟩ := h
  replace h := ZP h
  obtain ⟨j, e2, q⟩ := h
  subst e1 e2
  exact ⟨i, j, rv.int, ru.int, k.dat r Step.refl (Dt.int _) q⟩⟩
theorem FA {f : Value → Value → Sem Value} {g : Int → Int → Bool} (h : OpR X f (rI0 fun i j => .bl (g i j))) : OpD X f (δI0 fun i j => .bool (g i j)) :=
 ⟨_, h, fun v u H x y M Φ Q r rv ru h k => by
  replace h := ZP h
  obtain ⟨i, e1, h⟩ := h
  replace h := ZP h
  obtain ⟨j, e2, q⟩ := h
  subst e1 e2
  exact ⟨i, j, rv.int, ru.int, k.dat r Step.refl (Dt.bl _) q⟩⟩
theorem ZL : OpD X (binaryOp .Add) (δI0 fun i j => .int (i + j)) := Rx RV
theorem QC : OpD X (binaryOp .Sub) (δI0 fun i j => .int (i - j)) := Rx TH
theorem Jj : OpD X (binaryOp .Mult) (δI ZaC fun i j => .int (i * j)) := Zam RS
theorem Du : OpD X (binaryOp .FloorDiv) (δI Zdy fun i j => .int (i / j)) := Zam NH
theorem Jy : OpD X (binaryOp .Mod) (δI (fun _ j => 0 < j) fun i j => .int (i % j)) := Zam PD
theorem Jq : OpD X (binaryOp .Pow) (δI ZcL fun i j => .int (i ^ j.toNat)) := Zam T9
theorem Zae : OpD X (compareOp .Lt) (δI0 fun i j => .bool (decide (i < j))) := FA ZaZ
theorem Ui : OpD X (compareOp .LtE) (δI0 fun i j => .bool (decide (i ≤ j))) := FA ZcC
theorem P4 : OpD X (compareOp .Gt) (δI0 fun i j => .bool (decide (j < i))) := FA Za0
theorem ZbH : OpD X (compareOp .GtE) (δI0 fun i j => .bool (decide (j ≤ i))) := FA Zcl
noncomputable def δB (g : Bool → Bool → Bool) : D2 := fun x y M Φ => onB x fun c => onB y fun d => Φ (.dat (.bool (g c d))) M
theorem Vl : OpD X (compareOp .IsNot) (δB fun c d => c != d) :=
 ⟨fun x y H Q => ∃ c d, x = .bl c ∧ y = .bl d ∧ Q (.bl (c != d)) H, fun pins s σ H x y v u Q I rx ry ⟨c, d, e1, e2, q⟩ => by
  subst e1 e2
  cases rx
  cases ry
  exact isnot_bool ⟨.bl _, H, I, rfl, q⟩, fun v u H x y M Φ Q r rv ru h k => by
  replace h := Xr h
  obtain ⟨c, e1, h⟩ := h
  replace h := Xr h
  obtain ⟨d, e2, q⟩ := h
  subst e1 e2
  exact ⟨c, d, rv.bool, ru.bool, k.dat r Step.refl (Dt.bl _) q⟩⟩
noncomputable def Rg : D2 := fun x y M Φ => onT x fun ds => onT y fun es => ds ≠ [] ∧ ds.length + es.length ≤ sizeLine ∧ Φ (.dat (.tuple (ds ++ es))) M
theorem Gb : OpR X (binaryOp .Add) (fun x y H Q => ∃ l b xs zs, x = .ref l ∧ y = .ref b ∧ SqL X.K H l xs ∧ SqL X.K H b zs ∧ xs.length + zs.length ≤ sizeLine ∧ ∀ p, H p = none → Q (.ref p) (upd H p (.lst (xs ++ zs)))) := by
 intro pins s σ H x y v u Q I rx ry h
 obtain ⟨l, b, xs, zs, rfl, rfl, hl, hb, hz, q⟩ := h
 cases rx
 cases ry
 obtain ⟨its, r1, p1, _⟩ := I.list hl
 obtain ⟨its2, r2, p2, _⟩ := I.list hb
 obtain ⟨⟨cls, dd, data, sl⟩, ho, hc, n, hd⟩ := p1.isList
 obtain ⟨⟨cls2, dd2, data2, sl2⟩, ho2, hc2, n2, hd2⟩ := p2.isList
 simp only at hc hd hc2 hd2
 subst hc hd hc2 hd2
 have e : its.toArray ++ its2.toArray = (its ++ its2).toArray := by simp
 have hsz : its.toArray.size + its2.toArray.size ≤ sizeLine := by rw [List.size_toArray, List.size_toArray, ← r1.length, ← r2.length]; exact hz
 refine concat_meets ⟨_, ho, rfl⟩ ⟨_, ho2, rfl⟩ noFill_list_add seq_list_add PySem.F.slot_list_add PySem.F.entry_list_add (PySem.F.args_list_add_2 _ _) (list_addW l b its.toArray its2.toArray n n2 dd dd2 sl sl2 hsz) ⟨ho, ho2, ?_⟩
 rw [e]
 exact ⟨.ref _, _, I.ZcZ (t' := s.toks) (r1.append r2) (by rw [List.length_append]; exact hz), rfl, q _ I.fresh⟩
noncomputable def SK : D2 := fun x y M Φ => onL x fun ds => onL y fun es => ds.length + es.length ≤ sizeLine ∧ Φ (.dat (.list (ds ++ es))) M
noncomputable def Nh : D2 := fun x y M Φ => onL x fun ds => onL y fun es => ds.length + es.length ≤ sizeLine ∧ ∀ p, M p = none → Φ (.own p) (ZF M p (.lst (ds ++ es)))
end
noncomputable def Zdt : DTA := fun _ M Φ => Φ [] M
noncomputable def SI (ta : DTE) (tr : DTA) : DTA := fun Δ M Φ => ta Δ M fun x M1 => tr Δ M1 fun xs M2 => Φ (x :: xs) M2
section
variable {X : Cx} {e : Expr} {es : List Expr} {te : DTE} {t : DTA} {pos : Pos}
theorem Zc : DA X [] Zdt := ⟨_, Xf, fun _ H _ M _ _ r _ h k => k [] H [] M r Step.refl .nil h⟩
theorem Za (ha : DE X e te) (hr : DA X es t) (hs : starEach (e :: es) X.env = (false, eval e X.env) :: starEach es X.env := by rfl) : DA X (e :: es) (SI te t) := by
 obtain ⟨u, p, q⟩ := ha
 obtain ⟨w, p2, q2⟩ := hr
 refine ⟨_, Jg p p2 hs, fun σ H Δ M Φ Q r e h k => ?_⟩
 refine q σ H Δ M _ _ r e h fun v H1 x M1 r1 st rv hx => ?_
 exact q2 σ H1 Δ M1 _ _ r1 (e.step st) hx fun vs H2 xs M2 r2 st2 rvs hxs => k (v :: vs) H2 (x :: xs) M2 r2 (st.trans st2) (.cons (rv.step st2) rvs) hxs
noncomputable def ZcX (t : DTA) : DTE := fun Δ M Φ => t Δ M fun xs M1 => Yy xs fun ds => Φ (.dat (.tuple ds)) M1
noncomputable def Zc7 (t : DTA) : DTE := fun Δ M Φ => t Δ M fun xs M1 => Yy xs fun ds => Φ (.dat (.list ds)) M1
noncomputable def SW (t : DTA) : DTE := fun Δ M Φ => t Δ M fun xs M1 => Yy xs fun ds => ∀ p, M1 p = none → Φ (.own p) (ZF M1 p (.lst ds))
theorem Zr {x1} (h : DA X es t) : DE X (.Tuple es x1 pos) (ZcX t) := by
 obtain ⟨u, p, q⟩ := h
 refine ⟨_, BN p, fun σ H Δ M Φ Q r e h k => ?_⟩
 refine q σ H Δ M _ _ r e h fun vs H1 xs M1 r1 st rv hx => ?_
 replace hx := Uu hx
 obtain ⟨ds, rfl, hz', hx⟩ := hx
 have hz : ds.length ≤ sizeLine := by rw [sizeLine_eq]; omega
 have hd := rv.Zas
 refine ⟨by rw [hd.length]; exact hz, fun p hp => ?_⟩
 exact k.dat (r1.new hp) (st.trans (Step.new hp)) (Dt.Xp r1 hp hd) hx
theorem Z8 (h : DA X es t) : DE X (.List es pos) (Zc7 t) := by
 obtain ⟨u, p, q⟩ := h
 refine ⟨_, LS p, fun σ H Δ M Φ Q r e h k => ?_⟩
 refine q σ H Δ M _ _ r e h fun vs H1 xs M1 r1 st rv hx => ?_
 replace hx := Uu hx
 obtain ⟨ds, rfl, hz', hx⟩ := hx
 have hz : ds.length ≤ sizeLine := by rw [sizeLine_eq]; omega
 have hd := rv.Zas
 refine ⟨by rw [hd.length]; exact hz, fun p hp => ?_⟩
 exact k.dat (r1.new hp) (st.trans (Step.new hp)) (Dt.VS r1 hp hd) hx
theorem Yt (h : DA X es t) : DE X (.List es pos) (SW t) := by
 obtain ⟨u, p, q⟩ := h
 refine ⟨_, LS p, fun σ H Δ M Φ Q r e h k => ?_⟩
 refine q σ H Δ M _ _ r e h fun vs H1 xs M1 r1 st rv hx => ?_
 replace hx := Uu hx
 obtain ⟨ds, rfl, hz', hx⟩ := hx
 have hz : ds.length ≤ sizeLine := by rw [sizeLine_eq]; omega
 have hd := rv.Zas
 refine ⟨by rw [hd.length]; exact hz, fun p hp => ?_⟩
 exact k _ _ (.own p) _ (r1.Yh (Step.Js hp) hd) (st.trans (Step.Js hp)) rfl (hx p (r1.tracked hp))
noncomputable def ZcU (t : DTE) : DTE := fun Δ M Φ => t Δ M fun x M1 => onO x fun l => Vg (M1 l) fun ds => Φ (.dat (.list ds)) (V5 M1 l)
theorem L6 (h : DE X e te) : DE X e (ZcU te) := by
 obtain ⟨u, p, q⟩ := h
 refine ⟨u, p, fun σ H Δ M Φ Q r e h k => ?_⟩
 refine q σ H Δ M _ _ r e h fun v H1 x M1 r1 st rv hx => ?_
 replace hx := Jk hx
 obtain ⟨l, rfl, hx⟩ := hx
 replace hx := Jv hx
 obtain ⟨ds, hm, hx⟩ := hx
 obtain ⟨vs, e1, e2⟩ := r1.ls l ds hm
 cases (show v = .ref l from rv)
 exact k.dat r1.frz (st.trans Step.frz) (Dt.lst (.inl ⟨Wx, .inl e1⟩) (e2.step Step.frz)) hx
noncomputable def GP : List PyData → Nat → (PyData → Prop) → Prop
 | [], _, _ => False
 | d :: _, 0, P => P d
 | _ :: r, n + 1, P => GP r n P
noncomputable def Km (ds : List PyData) (i : Int) (P : PyData → Prop) : Prop := match i with
 | Int.ofNat n => GP ds n P
 | Int.negSucc n => GP ds.reverse n P
theorem Kf : ∀ {ds : List PyData} {n : Nat} {P : PyData → Prop}, GP ds n P → ∃ d, ds[n]? = some d ∧ P d
 | [], _, _, h => h.elim
 | d :: _, 0, _, h => ⟨d, rfl, h⟩
 | _ :: r, n + 1, _, h => by
  obtain ⟨d, e, hp⟩ := Kf (ds := r) (n := n) h
  exact ⟨d, by rw [List.getElem?_cons_succ]; exact e, hp⟩
theorem X8 : ∀ {ds : List PyData} {n : Nat} {P : PyData → Prop} {d : PyData}, ds[n]? = some d → P d → GP ds n P
 | [], _, _, _, e, _ => by simp at e
 | d :: _, 0, _, _, e, h => by simp at e; subst e; exact h
 | _ :: r, n + 1, _, _, e, h => X8 (ds := r) (n := n) (by rw [List.getElem?_cons_succ] at e; exact e) h
theorem MQ {ds : List PyData} {i : Int} {P : PyData → Prop} (h : Km ds i P) : ∃ d, atI ds i = some d ∧ P d := by
 unfold Km at h
 split at h
 ·rename_i n
  replace h := Kf h
  obtain ⟨d, e, hp⟩ := h
  exact ⟨d, Jx e, hp⟩
 ·rename_i n
  replace h := Kf h
  obtain ⟨d, e, hp⟩ := h
  refine ⟨d, ?_, hp⟩
  have hl := (List.getElem?_eq_some_iff.mp e).1
  rw [List.length_reverse] at hl
  rw [List.getElem?_reverse hl] at e
  unfold L2.atI ixN
  have e1 : ¬ (0 ≤ Int.negSucc n) := by omega
  rw [if_neg e1]
  have e2 : -(ds.length : Int) ≤ Int.negSucc n := by omega
  rw [if_pos e2]
  have e3 : (Int.negSucc n + (ds.length : Int)).toNat = ds.length - 1 - n := by omega
  simp only [e3]
  exact e
theorem Qz {ds : List PyData} {i : Int} {P : PyData → Prop} {d : PyData} (e : atI ds i = some d) (h : P d) : Km ds i P := by
 unfold L2.atI at e
 cases i with
 | ofNat n =>
  have hh : ixN ds.length (Int.ofNat n) = if n < ds.length then some n else none := by
   unfold ixN
   rw [if_pos (show (0 : Int) ≤ Int.ofNat n from Int.natCast_nonneg n)]
   by_cases hn : n < ds.length
   ·rw [if_pos hn, if_pos (show Int.ofNat n < _ by show ((n : Nat) : Int) < _; omega)]
    rfl
   ·rw [if_neg hn, if_neg (show ¬ Int.ofNat n < _ by show ¬ ((n : Nat) : Int) < _; omega)]
  rw [hh] at e
  split at e
  ·exact X8 (by exact e) h
  ·cases e
 | negSucc n =>
  unfold ixN at e
  rw [if_neg (by omega)] at e
  by_cases hn : -(ds.length : Int) ≤ Int.negSucc n
  ·rw [if_pos hn] at e
   have e3 : (Int.negSucc n + (ds.length : Int)).toNat = ds.length - 1 - n := by omega
   simp only [e3] at e
   refine X8 (d := d) ?_ h
   rw [List.getElem?_reverse (by omega)]
   exact e
  ·rw [if_neg hn] at e
   cases e
theorem CM (l : List PyData) (a : PyData) (P : PyData → Prop) : Km (l ++ [a]) (-1) P = P a := by
 show GP (l ++ [a]).reverse 0 P = P a
 rw [List.reverse_append]
 rfl
noncomputable def δIx : D2 := fun x y M Φ => onQ x M fun ds => onI y fun i => Km ds i fun d => Φ (.dat d) M
theorem Dts.atI {K : PySem.W.Frag} {M : Mp} {H : Hp} {vs : List V} {ds : List PyData} {i : Int} {d : PyData} (h : Dts K M H vs ds) (e : L2.atI ds i = some d) : ∃ v, L2.atI vs i = some v ∧ Dt K M H v d := by
 unfold L2.atI at e ⊢
 rw [h.length]
 cases q : ixN ds.length i with
 | none => rw [q] at e; cases e
 | some j =>
  rw [q] at e
  exact h.get e
theorem Zk {a b : Expr} {ta tb : DTE} (ha : DE X a ta) (hb : DE X b tb) (hs : CW b := by intro _ _; rfl) : DE X (.Subscript a b pos) (dOp δIx ta tb) := by
 obtain ⟨ta', pa, qa⟩ := ha
 obtain ⟨tb', pb, qb⟩ := hb
 refine ⟨_, Zcg Zal pa pb hs, Snd.opn qa qb fun v u H x y M Φ Q r rv ru h k => ?_⟩
 replace h := Gh h
 obtain ⟨ds, hx, h⟩ := h
 replace h := ZP h
 obtain ⟨i, rfl, h⟩ := h
 replace h := MQ h
 obtain ⟨d, hd, q⟩ := h
 cases ru.int
 rcases hx with rfl | rfl | ⟨l, rfl, hm⟩
 ·obtain ⟨p, xs, rfl, h1, h2⟩ := rv.tup
  obtain ⟨w', e1, e2⟩ := h2.atI hd
  exact .inr (.inl ⟨p, xs, i, w', rfl, rfl, h1.sq, e1, k.dat r Step.refl e2 q⟩)
 ·obtain ⟨p, xs, rfl, h1, h2⟩ := rv.lst
  obtain ⟨w', e1, e2⟩ := h2.atI hd
  exact .inl ⟨p, xs, i, w', rfl, rfl, h1.sq, e1, k.dat r Step.refl e2 q⟩
 ·cases (show v = .ref l from rv)
  obtain ⟨vs, g1, g2⟩ := r.ls l ds hm
  obtain ⟨w', e1, e2⟩ := g2.atI hd
  exact .inl ⟨l, vs, i, w', rfl, rfl, SqL.of g1, e1, k.dat r Step.refl e2 q⟩
end
noncomputable abbrev D1 := List DV → Mp → DK → Prop
noncomputable def JX (X : Cx) (f : Value) (δ : D1) : Prop := ∃ r, QO X f r ∧ ∀ vs H xs M Φ Q, ZE X.K M H → J8 X.K M H vs xs → δ xs M Φ → Rch X.K M H Φ Q → r vs H Q
noncomputable def dCB (δ : D1) (t : DTA) : DTE := fun Δ M Φ => t Δ M fun xs M1 => δ xs M1 Φ
section
variable {X : Cx} {e : Expr} {es : List Expr} {t : DTA} {pos p : Pos} {x : Str} {id : String} {δ : D1}
theorem Zp (hc : JX X (.builtin id) δ) (hg : Gl X x) (hm : X.mg x = none) (hv : bootBuiltins x = some (.builtin id)) (ha : DA X (e :: es) t) (hn : x ≠ "__name__" := by decide) (hdb : (x == ("__debug__" : Str)) = false := by decide)
  (he : starEach (e :: es) X.env = (false, eval e X.env) :: starEach es X.env := by rfl) (hpl : (backTo pos (starEach es X.env)).any (·.1) = false := by rfl) : DE X (.Call (.Name x p) (e :: es) [] pos) (dCB δ t) := by
 obtain ⟨u, p, q⟩ := ha
 obtain ⟨r, hr, qr⟩ := hc
 refine ⟨_, XH hr hg hm hv p hn hdb he hpl, fun σ H Δ M Φ Q r e h k => ?_⟩
 exact q σ H Δ M _ _ r e h fun vs H1 xs M1 r1 st rv hx => qr vs H1 xs M1 _ _ r1 rv hx (k.step st)
theorem ZU (hc : JX X (.type id) δ) (hg : Gl X x) (hm : X.mg x = none) (hv : bootBuiltins x = some (.type id)) (ha : DA X (e :: es) t) (hn : x ≠ "__name__" := by decide) (hdb : (x == ("__debug__" : Str)) = false := by decide)
  (he : starEach (e :: es) X.env = (false, eval e X.env) :: starEach es X.env := by rfl) (hpl : (backTo pos (starEach es X.env)).any (·.1) = false := by rfl) : DE X (.Call (.Name x p) (e :: es) [] pos) (dCB δ t) := by
 obtain ⟨u, p, q⟩ := ha
 obtain ⟨r, hr, qr⟩ := hc
 refine ⟨_, Df hr hg hm hv p hn hdb he hpl, fun σ H Δ M Φ Q r e h k => ?_⟩
 exact q σ H Δ M _ _ r e h fun vs H1 xs M1 r1 st rv hx => qr vs H1 xs M1 _ _ r1 rv hx (k.step st)
theorem Paired.one {α β : Type} {F : α → β → Prop} {l : List α} {b : β} (h : Paired F l [b]) : ∃ a, l = [a] ∧ F a b := by
 cases h with
 | cons h1 h2 => cases h2; exact ⟨_, rfl, h1⟩
theorem Paired.two {α β : Type} {F : α → β → Prop} {l : List α} {b c : β} (h : Paired F l [b, c]) : ∃ a a', l = [a, a'] ∧ F a b ∧ F a' c := by
 cases h with
 | cons h1 h2 =>
  obtain ⟨a, rfl, h3⟩ := Paired.one h2
  exact ⟨_, a, rfl, h1, h3⟩
noncomputable def SH : D1 := fun xs M Φ => on1 xs fun x => onQ x M fun ds => Φ (.dat (.int ds.length)) M
theorem JT : JX X (.builtin "len") SH := by
 refine ⟨_, KL, fun vs H xs M Φ Q r rv h k => ?_⟩
 replace h := Zx h
 obtain ⟨x, rfl, h⟩ := h
 replace h := Gh h
 obtain ⟨ds, hx, q⟩ := h
 have fin : Q (.int ds.length) H := k.dat r Step.refl (Dt.int _) q
 rcases hx with rfl | rfl | ⟨l, rfl, hm⟩
 ·obtain ⟨v, rfl, h1⟩ := Paired.one rv
  obtain ⟨p, ys, rfl, g1, g2⟩ := Qh.tup h1
  exact ⟨p, ys, rfl, .inr g1.sq, by rw [g2.length]; exact fin⟩
 ·obtain ⟨v, rfl, h1⟩ := Paired.one rv
  obtain ⟨p, ys, rfl, g1, g2⟩ := Qh.lst h1
  exact ⟨p, ys, rfl, .inl g1.sq, by rw [g2.length]; exact fin⟩
 ·obtain ⟨v, rfl, h1⟩ := Paired.one rv
  cases (show v = .ref l from h1)
  obtain ⟨ws, g1, g2⟩ := r.ls l ds hm
  exact ⟨l, ws, rfl, .inl (SqL.of g1), by rw [g2.length]; exact fin⟩
noncomputable def LN : D1 := fun xs M Φ => on1 xs fun x => onS x fun z => z.length ≤ sizeLine ∧ Φ (.dat (.int z.length)) M
theorem Nx : JX X (.builtin "len") LN := by
 refine ⟨_, KY, fun vs H xs M Φ Q r rv h k => ?_⟩
 replace h := Zx h
 obtain ⟨x, rfl, h⟩ := h
 replace h := B5 h
 obtain ⟨z, rfl, hz, q⟩ := h
 obtain ⟨v, rfl, h1⟩ := Paired.one rv
 exact ⟨z, by rw [Qh.str h1], hz, k.dat r Step.refl (Dt.int _) q⟩
noncomputable def Mz : D1 := fun xs M Φ => on1 xs fun x => onI x fun i => i.natAbs.log2 < 1920 ∧ Φ (.dat (.str (toString i))) M
theorem Oy : JX X (.type "str") Mz := by
 refine ⟨_, Wn, fun vs H xs M Φ Q r rv h k => ?_⟩
 replace h := Zx h
 obtain ⟨x, rfl, h⟩ := h
 replace h := ZP h
 obtain ⟨i, rfl, hz, q⟩ := h
 obtain ⟨v, rfl, h1⟩ := Paired.one rv
 exact ⟨i, by rw [Qh.int h1], hz, k.dat r Step.refl (Dt.str _) q⟩
noncomputable def R1 : D1 := fun xs M Φ => on1 xs fun x => onI x fun i => Φ (.dat (.int (if i < 0 then -i else i))) M
theorem B6 : JX X (.builtin "abs") R1 := by
 refine ⟨_, Hw, fun vs H xs M Φ Q r rv h k => ?_⟩
 replace h := Zx h
 obtain ⟨x, rfl, h⟩ := h
 replace h := ZP h
 obtain ⟨i, rfl, q⟩ := h
 obtain ⟨v, rfl, h1⟩ := Paired.one rv
 exact ⟨i, by rw [Qh.int h1], k.dat r Step.refl (Dt.int _) q⟩
noncomputable def δ2I (g : Int → Int → Int) : D1 := fun xs M Φ => on2 xs fun x y => onI x fun i => onI y fun j => Φ (.dat (.int (g i j))) M
theorem Oa (hc : X.calm = true) : JX X (.builtin "max") (δ2I fun i j => max i j) := by
 refine ⟨_, Cp hc, fun vs H xs M Φ Q r rv h k => ?_⟩
 replace h := QB h
 obtain ⟨x, y, rfl, h⟩ := h
 replace h := ZP h
 obtain ⟨i, rfl, h⟩ := h
 replace h := ZP h
 obtain ⟨j, rfl, q⟩ := h
 obtain ⟨v, u, rfl, h1, h2⟩ := Paired.two rv
 have e : (if j > i then j else i) = max i j := by rw [Int.max_def]; split <;> split <;> omega
 exact ⟨i, j, by rw [Qh.int h1, Qh.int h2], by rw [e]; exact k.dat r Step.refl (Dt.int _) q⟩
noncomputable def U8 : D1 := fun xs M Φ => on1 xs fun x => onQ x M fun ds => Φ (.dat (.list ds)) M
theorem Jr : JX X (.type "list") U8 := by
 refine ⟨_, VL, fun vs H xs M Φ Q r rv h k => ?_⟩
 replace h := Zx h
 obtain ⟨x, rfl, h⟩ := h
 replace h := Gh h
 obtain ⟨ds, hx, q⟩ := h
 rcases hx with rfl | rfl | ⟨l0, rfl, hm⟩
 ·obtain ⟨v, rfl, h1⟩ := Paired.one rv
  obtain ⟨p, ys, rfl, g1, g2⟩ := Qh.tup h1
  exact ⟨p, ys, rfl, .inr g1.sq, fun l hl => k.dat (r.new hl) (Step.new hl) (Dt.VS r hl g2) q⟩
 ·obtain ⟨v, rfl, h1⟩ := Paired.one rv
  obtain ⟨p, ys, rfl, g1, g2⟩ := Qh.lst h1
  exact ⟨p, ys, rfl, .inl g1.sq, fun l hl => k.dat (r.new hl) (Step.new hl) (Dt.VS r hl g2) q⟩
 ·obtain ⟨v, rfl, h1⟩ := Paired.one rv
  cases (show v = .ref l0 from h1)
  obtain ⟨ws, g1, g2⟩ := r.ls l0 ds hm
  exact ⟨l0, ws, rfl, .inl (SqL.of g1), fun l hl => k.dat (r.new hl) (Step.new hl) (Dt.VS r hl g2) q⟩
end
end DL
namespace DL
open PySem PySem.Spec PyProof.Rows L2
mutual
noncomputable def ZR : PyData → Bool
 | .none | .bool _ | .int _ | .str _ => false
 | .list _ => true
 | .tuple xs => ZC xs
 | .dict kvs => QR kvs
noncomputable def ZC : List PyData → Bool
 | [] => false
 | x :: xs => ZR x || ZC xs
noncomputable def QR : List (PyData × PyData) → Bool
 | [] => false
 | (k, v) :: r => ZR k || ZR v || QR r
end
theorem Jo : ∀ (ks ds : List PyData), ks.length = ds.length → QR (ks.zip ds) = false → ZC ds = false
 | [], [], _, _ => by simp [ZC]
 | k :: ks, d :: ds, h, e => by
  rw [List.zip_cons_cons, QR] at e
  have e' : (ZR k = false ∧ ZR d = false) ∧ QR (ks.zip ds) = false := by simpa using e
  rw [ZC, e'.1.2, Jo ks ds (by simpa using h) e'.2]; rfl
 | [], _ :: _, h, _ => by simp at h
 | _ :: _, [], h, _ => by simp at h
section
variable {X : Cx} {pins : List (Addr × Obj)} {σ : L2.St} {H : Hp} {s : Shared} {M : Mp}
theorem Ky {h : Heap} {P : Program} {w : World} : ∀ {es : List DictEntry} {kvs : List (Key × Value)}, Pairs (Z3 P w) es kvs → ReadsAll h (es.map (·.key)) (kvs.map fun kv => kD kv.1) []
 | _, _, .nil => .nil
 | _, _, .cons (e := e) (kv := kv) h1 _ h3 => by
  rw [List.map_cons, List.map_cons]
  have hk : Reads h e.key (kD kv.1) [] := by
   rcases ZQ (k := kv.1) (v := e.key) h1 with ⟨i, t, e1, e2⟩ | ⟨x, t, e1, e2⟩
   ·rw [e1, e2]; exact .int i t
   ·rw [e1, e2]; exact .str x t
  exact .cons (as := []) (bs := []) hk (Ky h3)
theorem Xs {P : Program} {w : World} : ∀ {es : List DictEntry} {kvs : List (Key × Value)}, Pairs (Z3 P w) es kvs → es.map (·.val) = kvs.map (·.2)
 | _, _, .nil => rfl
 | _, _, .cons h1 h2 h3 => by rw [List.map_cons, List.map_cons, h2, Xs h3]
theorem KV.vals {kvs : List (Key × V)} {vs : List (Key × Value)} (r : KV kvs vs) : Vals (kvs.map (·.2)) (vs.map (·.2)) ∧ (kvs.map fun kv => kD kv.1) = vs.map fun kv => kD kv.1 := by
 unfold KV at r
 induction r with
 | nil => exact ⟨.nil, rfl⟩
 | cons h _ ih => exact ⟨.cons h.2 ih.1, by rw [List.map_cons, List.map_cons, h.1, ih.2]⟩
theorem Dp {h : Heap} : ∀ {ks : List Key} {us : List Value}, Vals (ks.map kV) us → ReadsAll h us (ks.map kD) []
 | [], _, r => by rw [List.map_nil] at r; cases r; exact .nil
 | k :: ks, _, r => by
  rw [List.map_cons] at r
  cases r with
  | cons r1 r2 =>
   rw [List.map_cons]
   refine .cons (as := []) (bs := []) ?_ (Dp r2)
   cases k with
   | inl i => obtain ⟨t, rfl⟩ := r1; exact .int i t
   | inr x => obtain ⟨t, rfl⟩ := r1; exact .str x t
theorem KT.read (I : Inv X pins σ H s) {kvs : List (List Key × V)} {xs : List (List Key × Addr × Value)} (r : KT H kvs xs) :
  ReadsAll s.heap (xs.map fun x => Value.ref x.2.1) (kvs.map fun kv => PyData.tuple (kv.1.map kD)) [] ∧ Vals (kvs.map (·.2)) (xs.map fun x => x.2.2) := by
 induction r with
 | nil => exact ⟨.nil, .nil⟩
 | @cons p q ps qs h _ ih =>
  obtain ⟨its, r, ⟨o, ho, hc, n, hd⟩, _⟩ := I.tuple (SqT.of (K := X.K) h.2.1)
  rw [List.map_cons, List.map_cons, List.map_cons, List.map_cons]
  exact ⟨.cons (as := []) (bs := []) (.tuple ho hc hd (by simpa using Dp r)) ih.1, .cons h.2.2 ih.2⟩
mutual
theorem Dt.reads (I : Inv X pins σ H s) : ∀ {v : V} {d : PyData}, Dt X.K M H v d → ∀ {u : Value}, RelV v u → ∃ as, Reads s.heap u d as ∧ (ZR d = false → sysModules ∉ as)
 | _, _, .non, _, r => by cases r; exact ⟨[], .none, fun _ h => nomatch h⟩
 | _, _, .bl b, _, r => by cases r; exact ⟨[], .bool b, fun _ h => nomatch h⟩
 | _, _, .int i, _, r => by obtain ⟨t, rfl⟩ := r; exact ⟨[], .int i t, fun _ h => nomatch h⟩
 | _, _, .str x, _, r => by obtain ⟨t, rfl⟩ := r; exact ⟨[], .str x t, fun _ h => nomatch h⟩
 | _, _, .tup h1 h2, _, r => by
  cases r
  obtain ⟨its, rv, ⟨o, ho, hc, n, hd⟩, _⟩ := I.tuple h1.sq
  obtain ⟨as, ra, hs⟩ := Dts.reads I h2 rv
  exact ⟨as, .tuple ho hc hd (by simpa using ra), fun h => hs (by simpa [ZR] using h)⟩
 | _, _, .lst h1 h2, _, r => by
  cases r
  obtain ⟨its, rv, ⟨o, n, ho, hc, _, hd⟩, _⟩ := I.list h1.sq
  obtain ⟨as, ra, hs⟩ := Dts.reads I h2 rv
  exact ⟨_, .list ho hc hd (by simpa using ra), fun h => by simp [ZR] at h⟩
 | _, _, .dK (a := a) (kvs := kvs) (ds := ds) h0 h1 h2, _, r => by
  cases r
  obtain ⟨_, hsys, vs, rel, o, es, ep, ho, hc, hd, _, hp, _⟩ := (show Qb X.prog X.w H s.heap a (.dK kvs) from I.hok a _ h1)
  obtain ⟨rv, hk⟩ := KV.vals rel
  obtain ⟨bs, rb, hs⟩ := Dts.reads I h2 rv
  have hl : (kvs.map fun kv => kD kv.1).length = ds.length := by rw [List.length_map, ← h2.length, List.length_map]
  refine ⟨a :: [] ++ bs, .dict (as := []) ho hc.1 hd ?_ ?_, fun h => ?_⟩
  ·rw [List.map_fst_zip (Nat.le_of_eq hl), hk]
   exact Ky hp
  ·rw [List.map_snd_zip (Nat.le_of_eq hl.symm), Xs hp]
   exact rb
  ·have h' : ZC ds = false := Jo _ _ hl (by rw [ZR] at h; exact h)
   intro hm
   rcases List.mem_cons.mp hm with e | hm
   ·rw [← e] at hsys
    simp at hsys
   ·exact hs h' hm
 | _, _, .dT (a := a) (kvs := kvs) (ds := ds) h0 h1 h2 _, _, r => by
  cases r
  obtain ⟨_, hsys, xs, rel, o, es, ep, ho, hc, hd, he, _⟩ := (show Qb X.prog X.w H s.heap a (.dT kvs) from I.hok a _ h1)
  obtain ⟨rk, rv⟩ := KT.read I rel
  obtain ⟨bs, rb, hs⟩ := Dts.reads I h2 rv
  have hl : (kvs.map fun kv => PyData.tuple (kv.1.map kD)).length = ds.length := by rw [List.length_map, ← h2.length, List.length_map]
  refine ⟨a :: [] ++ bs, .dict (as := []) ho hc.1 hd ?_ ?_, fun h => ?_⟩
  ·rw [List.map_fst_zip (Nat.le_of_eq hl), he, List.map_map]
   exact rk
  ·rw [List.map_snd_zip (Nat.le_of_eq hl.symm), he, List.map_map]
   exact rb
  ·have h' : ZC ds = false := Jo _ _ hl (by rw [ZR] at h; exact h)
   intro hm
   rcases List.mem_cons.mp hm with e | hm
   ·rw [← e] at hsys
    simp at hsys
   ·exact hs h' hm
 | _, _, .dX (a := a) (dk := dk) (d := d) h0 h1 hsys h3 h4 h5, _, r => by
  cases r
  obtain ⟨hφ, _⟩ := (show Qb X.prog X.w H s.heap a (.ext _) from I.hok a _ h1)
  obtain ⟨o, es, n, u, ho, hc, hd, ek, ev, ru⟩ := h3 s.heap hφ
  obtain ⟨as, ra, ha⟩ := Dt.reads I h4 (u := .ref _) rfl
  obtain ⟨bs, rb, hb⟩ := Dt.reads I h5 ru
  refine ⟨a :: (as ++ []) ++ (bs ++ []), .dict ho hc hd ?_ ?_, fun h => ?_⟩
  ·rw [ek]; exact .cons ra .nil
  ·rw [ev]; exact .cons rb .nil
  ·have h' : ZR dk = false ∧ ZR d = false := by simpa [ZR, QR] using h
   intro hm
   rw [List.append_nil, List.append_nil, List.cons_append] at hm
   rcases List.mem_cons.mp hm with e | hm
   ·rw [← e] at hsys
    simp at hsys
   ·rcases List.mem_append.mp hm with hm | hm
    ·exact ha h'.1 hm
    ·exact hb h'.2 hm
theorem Dts.reads (I : Inv X pins σ H s) : ∀ {vs : List V} {ds : List PyData}, Dts X.K M H vs ds → ∀ {us : List Value}, Vals vs us → ∃ as, ReadsAll s.heap us ds as ∧ (ZC ds = false → sysModules ∉ as)
 | _, _, .nil, _, r => by cases r; exact ⟨[], .nil, fun _ h => nomatch h⟩
 | _, _, .cons (d := d) (ds := ds) h1 h2, _, r => by
  cases r with
  | cons r1 r2 =>
   obtain ⟨as, ra, ha⟩ := Dt.reads I h1 r1
   obtain ⟨bs, rb, hb⟩ := Dts.reads I h2 r2
   refine ⟨as ++ bs, .cons ra rb, fun h hm => ?_⟩
   have h' : ZR d = false ∧ ZC ds = false := by simpa [ZC] using h
   rcases List.mem_append.mp hm with hm | hm
   ·exact ha h'.1 hm
   ·exact hb h'.2 hm
end
end
section
variable {X : Cx}
theorem Bq (hg : X.A.guards = some []) (hu : X.A.units + 100 < cLine) : QO X (.builtin "repr") (fun xs H Q => ∃ v d M, xs = [v] ∧ Dt X.K M H v d ∧ d.showable = true ∧ (d.hasDict && ZR d) = false ∧ d.depth ≤ 64 ∧
  d.shown.length ≤ sizeLine ∧ Q (.str d.shown) H) := by
 intro pins s σ H xs us Q I r h
 obtain ⟨v, d, M, rfl, hd, hs, hm, hdp, hz, q⟩ := h
 obtain ⟨u, rfl, ru⟩ := vals1 r
 have ref : ∀ a, u = .ref a → wpAny (model X.prog X.w) X.A (call (.builtin "repr") [u]) (EP X pins σ Q) X.xe s := fun a e => by
  obtain ⟨as, ra, hsm⟩ := hd.reads I ru
  subst e
  refine repr_of_reads' ra hs (fun hx => hsm ?_) hg (by omega) (fun _ _ e => e) (fun h' u tk k => ⟨.str d.shown, H, I.kept k, ⟨_, rfl⟩, q⟩) hz
  rw [hx, Bool.true_and] at hm
  exact hm
 cases hd with
 | non => cases ru; simp only [PyData.shown] at q; exact PySem.P.repr_of_none ⟨.str _, H, I.tok _, ⟨_, rfl⟩, q⟩
 | bl b => cases ru; simp only [PyData.shown] at q; exact PySem.P.repr_of_bool ⟨.str _, H, I.tok _, ⟨_, rfl⟩, q⟩
 | int i => obtain ⟨t, rfl⟩ := ru; simp only [PyData.shown] at q; exact PySem.P.repr_of_int (by simpa [PyData.showable] using hs) ⟨.str _, H, I.tok _, ⟨_, rfl⟩, q⟩
 | str x => obtain ⟨t, rfl⟩ := ru; simp only [PyData.shown] at q hz; exact PySem.P.repr_of_str ⟨.str _, H, I.tok _, ⟨_, rfl⟩, q⟩ hz
 | tup _ _ => exact ref _ ru
 | lst _ _ => exact ref _ ru
 | dK _ _ _ => exact ref _ ru
 | dT _ _ _ _ => exact ref _ ru
 | dX _ _ _ _ _ _ => exact ref _ ru
structure Shw (d : PyData) : Prop where
 s : d.showable = true
 m : (d.hasDict && ZR d) = false
 dp : d.depth ≤ 64
 z : d.shown.length ≤ sizeLine
noncomputable def Zao : D1 := fun xs M Φ => on1 xs fun x => onD x fun d => Shw d ∧ Φ (.dat (.str d.shown)) M
noncomputable def tyN : PyData → String
 | .none => "NoneType"
 | .bool _ => "bool"
 | .int _ => "int"
 | .str _ => "str"
 | .list _ => "list"
 | .tuple _ => "tuple"
 | .dict _ => "dict"
theorem D0 : QO X (.builtin "isinstance") (fun xs H Q => ∃ v d M T b, xs = [v, .ty T] ∧ Dt X.K M H v d ∧ PySem.W.kitOne X.K (.type (tyN d)) (.type T) = some b ∧ Q (.bl b) H) := by
 intro pins s σ H xs us Q I r h
 obtain ⟨v, d, M, T, b, rfl, hd, e, q⟩ := h
 obtain ⟨u, w', rfl, ru, rt⟩ := vals2 r
 cases (show w' = Value.type T from rt)
 have fin : ∀ tk, EP X pins σ Q (.bool b) { s with toks := tk } := fun tk => ⟨.bl b, H, I.tok tk, rfl, q⟩
 cases hd with
 | non => cases ru; exact PySem.W.kia_one PySem.W.kitx_none I.kIn True.intro e (fun z => nomatch z) fin
 | bl y => cases ru; exact PySem.W.kia_one PySem.W.kitx_bool I.kIn True.intro e (fun z => nomatch z) fin
 | int i => obtain ⟨t, rfl⟩ := ru; exact PySem.W.kia_one PySem.W.kitx_int I.kIn True.intro e (fun z => nomatch z) fin
 | str y => obtain ⟨t, rfl⟩ := ru; exact PySem.W.kia_one PySem.W.kitx_str I.kIn True.intro e (fun z => nomatch z) fin
 | tup h1 _ =>
  cases ru
  obtain ⟨_, _, ⟨o, ho, hc, _⟩, _⟩ := I.tuple h1.sq
  exact PySem.W.kia_one PySem.W.kitx_tuple I.kIn ⟨o, ho, hc⟩ e (fun z => nomatch z) fin
 | lst h1 _ =>
  cases ru
  obtain ⟨_, _, ⟨o, n, ho, hc, _⟩, _⟩ := I.list h1.sq
  exact PySem.W.kia_one PySem.W.kitx_list I.kIn ⟨o, ho, hc⟩ e (fun z => nomatch z) fin
 | dK _ h1 _ =>
  cases ru
  obtain ⟨_, _, vs, _, p⟩ := (show Qb X.prog X.w H s.heap _ (.dK _) from I.hok _ _ h1)
  obtain ⟨o, es, ep, g1, g2, _⟩ := p
  exact PySem.W.kia_one PySem.W.kitx_dict I.kIn ⟨o, g1, g2.1⟩ e (fun z => nomatch z) fin
 | dT _ h1 _ _ =>
  cases ru
  obtain ⟨_, _, xs, _, o, es, ep, g1, g2, _⟩ := (show Qb X.prog X.w H s.heap _ (.dT _) from I.hok _ _ h1)
  exact PySem.W.kia_one PySem.W.kitx_dict I.kIn ⟨o, g1, g2.1⟩ e (fun z => nomatch z) fin
 | dX _ h1 _ h3 _ _ =>
  cases ru
  obtain ⟨hφ, _⟩ := (show Qb X.prog X.w H s.heap _ (.ext _) from I.hok _ _ h1)
  obtain ⟨o, es, n, u, ho, hc, _⟩ := h3 s.heap hφ
  exact PySem.W.kia_one PySem.W.kitx_dict I.kIn ⟨o, ho, hc⟩ e (fun z => nomatch z) fin
noncomputable def ZD (T : String) (d : PyData) : Bool := tyN d == T || (T == "int" && tyN d == "bool")
theorem NT (K : PySem.W.Frag) (d : PyData) : PySem.W.kitOne K (.type (tyN d)) (.type "int") = some (ZD "int" d) := by cases d <;> rfl
theorem FU (K : PySem.W.Frag) (d : PyData) : PySem.W.kitOne K (.type (tyN d)) (.type "bool") = some (ZD "bool" d) := by cases d <;> rfl
theorem kit_tuple (K : PySem.W.Frag) (d : PyData) : PySem.W.kitOne K (.type (tyN d)) (.type "tuple") = some (ZD "tuple" d) := by cases d <;> rfl
noncomputable def MN (T : String) : D1 := fun xs M Φ => match xs with | [.dat d, .ty t] => t = T ∧ Φ (.dat (.bool (ZD T d))) M | _ => False
theorem Wz {T : String} (ht : ∀ d, PySem.W.kitOne X.K (.type (tyN d)) (.type T) = some (ZD T d)) : JX X (.builtin "isinstance") (MN T) := by
 refine ⟨_, D0, fun vs H xs M Φ Q r rv h k => ?_⟩
 replace h : ∃ d, xs = [.dat d, .ty T] ∧ Φ (.dat (.bool (ZD T d))) M := by
  unfold MN at h
  split at h
  ·exact ⟨_, by rw [h.1], h.2⟩
  ·exact h.elim
 obtain ⟨d, rfl, q⟩ := h
 obtain ⟨v, u, rfl, h1, h2⟩ := Paired.two rv
 cases (show u = .ty T from h2)
 exact ⟨v, d, M, T, _, rfl, h1, ht d, k.dat r Step.refl (Dt.bl _) q⟩
theorem RD (hu : X.A.units + 64 < cLine) : OpR X (compareOp .Eq) (fun x y H Q => ∃ M d e, Dt X.K M H x d ∧ Dt X.K M H y e ∧ d.canLay0 = true ∧ e.canLay0 = true ∧ min d.depth e.depth ≤ 64 ∧ Q (.bl (PyData.eqv d e)) H) := by
 intro pins s σ H x y v u Q I rx ry h
 obtain ⟨M, d, e, h1, h2, c1, c2, hdp, q⟩ := h
 obtain ⟨as, ra, _⟩ := h1.reads I rx
 obtain ⟨bs, rb, _⟩ := h2.reads I ry
 exact PySem.SeqAt.compareEq_reads ra rb c1 c2 (by omega) ⟨.bl _, H, I, rfl, q⟩
theorem TX (hu : X.A.units + 64 < cLine) : OpR X (compareOp .NotEq) (fun x y H Q => ∃ M d e, Dt X.K M H x d ∧ Dt X.K M H y e ∧ d.canLay0 = true ∧ e.canLay0 = true ∧ min d.depth e.depth ≤ 64 ∧ Q (.bl (!PyData.eqv d e)) H) := by
 intro pins s σ H x y v u Q I rx ry h
 obtain ⟨M, d, e, h1, h2, c1, c2, hdp, q⟩ := h
 obtain ⟨as, ra, _⟩ := h1.reads I rx
 obtain ⟨bs, rb, _⟩ := h2.reads I ry
 exact PySem.SeqAt.compareNe_reads ra rb c1 c2 (by omega) ⟨.bl _, H, I, rfl, q⟩
noncomputable def Oc (d e : PyData) : Bool := d.canLay0 && e.canLay0 && Nat.ble (min d.depth e.depth) 64
noncomputable def eqD : PyData → PyData → (Bool → Prop) → Prop
 | .int i, .int j, P => P (decide (i = j))
 | .str s, .str t, P => P (decide (s = t))
 | .bool a, .bool b, P => P (a == b)
 | d, e, P => Oc d e = true ∧ P (PyData.eqv d e)
theorem Sj {d e : PyData} {P : Bool → Prop} (h : Oc d e = true) (p : P (PyData.eqv d e)) : eqD d e P := by
 unfold eqD
 split
 ·simp only [PyData.eqv] at p
  rw [show decide (_ = _) = (_ == _) from (Bool.beq_eq_decide_eq _ _).symm] at *
  exact p
 ·simp only [PyData.eqv] at p
  rw [show decide (_ = _) = (_ == _) from (Bool.beq_eq_decide_eq _ _).symm] at *
  exact p
 ·simp only [PyData.eqv] at p
  exact p
 ·exact ⟨h, p⟩
theorem LP {d e : PyData} {P : Bool → Prop} (h : eqD d e P) : (d.canLay0 = true ∧ e.canLay0 = true ∧ min d.depth e.depth ≤ 64 ∧ P (PyData.eqv d e)) ∨ ∃ s t, d = .str s ∧ e = .str t ∧ P (decide (s = t)) := by
 unfold eqD at h
 split at h
 ·refine .inl ⟨by simp [PyData.canLay0], by simp [PyData.canLay0], by simp [PyData.depth], ?_⟩
  simp only [PyData.eqv]
  rw [Bool.beq_eq_decide_eq]
  exact h
 ·exact .inr ⟨_, _, rfl, rfl, h⟩
 ·refine .inl ⟨by simp [PyData.canLay0], by simp [PyData.canLay0], by simp [PyData.depth], ?_⟩
  simp only [PyData.eqv]
  exact h
 ·have h1 := h.1
  unfold Oc at h1
  simp only [Bool.and_eq_true] at h1
  exact .inl ⟨h1.1.1, h1.1.2, Nat.le_of_ble_eq_true h1.2, h.2⟩
theorem TN {f : Value → Value → Sem Value} {r1 r2 : R2} (h1 : OpR X f r1) (h2 : OpR X f r2) : OpR X f (fun x y H Q => r1 x y H Q ∨ r2 x y H Q) :=
 fun pins s σ H x y v u Q I rx ry h => h.elim (h1 pins s σ H x y v u Q I rx ry) (h2 pins s σ H x y v u Q I rx ry)
noncomputable def δEq : D2 := fun x y M Φ => onD x fun d => onD y fun e => eqD d e fun b => Φ (.dat (.bool b)) M
noncomputable def δNe : D2 := fun x y M Φ => onD x fun d => onD y fun e => eqD d e fun b => Φ (.dat (.bool (!b))) M
theorem WV {k : Nat} (hr : Vw k X.A) : OpD X (compareOp .Eq) δEq :=
 ⟨_, TN (RD hr.units) Zca, fun v u H x y M Φ Q r rv ru h k => by
  obtain ⟨d, e1, h⟩ := Qa h
  obtain ⟨e, e2, h⟩ := Qa h
  subst e1 e2
  rcases LP h with ⟨c1, c2, hdp, q⟩ | ⟨s, t, rfl, rfl, q⟩
  ·exact .inl ⟨M, d, e, rv, ru, c1, c2, hdp, k.dat r Step.refl (Dt.bl _) q⟩
  ·have q' : Q (.bl (decide (s = t))) H := k.dat r Step.refl (Dt.bl _) q
   refine .inr ⟨by rw [rv.str, ru.str]; rfl, ?_⟩
   rw [rv.str, ru.str, Yx, Bool.beq_eq_decide_eq]
   exact q'⟩
theorem MW {k : Nat} (hr : Vw k X.A) : OpD X (compareOp .NotEq) δNe :=
 ⟨_, TN (TX hr.units) SA, fun v u H x y M Φ Q r rv ru h k => by
  obtain ⟨d, e1, h⟩ := Qa h
  obtain ⟨e, e2, h⟩ := Qa h
  subst e1 e2
  rcases LP h with ⟨c1, c2, hdp, q⟩ | ⟨s, t, rfl, rfl, q⟩
  ·exact .inl ⟨M, d, e, rv, ru, c1, c2, hdp, k.dat r Step.refl (Dt.bl _) q⟩
  ·have q' : Q (.bl (!decide (s = t))) H := k.dat r Step.refl (Dt.bl _) q
   refine .inr ⟨by rw [rv.str, ru.str]; rfl, ?_⟩
   rw [rv.str, ru.str, Yx, Bool.beq_eq_decide_eq]
   exact q'⟩
noncomputable def SY : D2 := fun x y M Φ => onS x fun s => onS y fun t => Φ (.dat (.bool (!decide (s = t)))) M
theorem RE : OpD X (compareOp .NotEq) SY :=
 ⟨_, SA, fun v u H x y M Φ Q r rv ru h k => by
  obtain ⟨s, e1, h⟩ := B5 h
  obtain ⟨t, e2, q⟩ := B5 h
  subst e1 e2
  have q' : Q (.bl (!decide (s = t))) H := k.dat r Step.refl (Dt.bl _) q
  refine ⟨by rw [rv.str, ru.str]; rfl, ?_⟩
  rw [rv.str, ru.str, Yx, Bool.beq_eq_decide_eq]
  exact q'⟩
noncomputable def Za2 : D2 := fun x y M Φ => onS x fun s => onS y fun t => Φ (.dat (.bool (decide (s = t)))) M
noncomputable abbrev DTO := DSt → Mp → (Option Int → Mp → Prop) → Prop
noncomputable def DO (X : Cx) (e : Option Expr) (τ : DTO) : Prop := ∃ t, PO X e t ∧ ∀ σ H Δ M Φ (Q : Option Int → Hp → Prop), ZE X.K M H → QD X.K M H σ Δ → τ Δ M Φ → (∀ o H' M', ZE X.K M' H' → Step M H M' H' → Φ o M' → Q o H') → t σ H Q
noncomputable def Ca : DTO := fun _ M Φ => Φ none M
noncomputable def S4 (t : DTE) : DTO := fun Δ M Φ => t Δ M fun x M1 => onI x fun i => Φ (some i) M1
theorem QV : DO X none Ca := ⟨_, O8, fun _ H _ M _ _ r _ h k => k none H M r Step.refl h⟩
theorem QW {e : Expr} {te : DTE} (h : DE X e te) : DO X (some e) (S4 te) := by
 obtain ⟨t, p, q⟩ := h
 refine ⟨_, N4 p, fun σ H Δ M Φ Q r e h k => ?_⟩
 refine q σ H Δ M _ _ r e h fun v H1 x M1 r1 st rv hx => ?_
 replace hx := ZP hx
 obtain ⟨i, rfl, hx⟩ := hx
 exact ⟨i, rv.int, k _ H1 M1 r1 st hx⟩
noncomputable def cutD (xs : List PyData) (lo hi : Option Int) : List PyData := (xs.drop (HT.sIx xs.length 0 lo)).take (HT.sIx xs.length xs.length hi - HT.sIx xs.length 0 lo)
theorem Dts.cut {K : PySem.W.Frag} {M : Mp} {H : Hp} {vs : List V} {ds : List PyData} (h : Dts K M H vs ds) (lo hi : Option Int) : Dts K M H (MR vs lo hi) (cutD ds lo hi) := by
 unfold MR cutD
 rw [h.length]
 exact (h.drop _).take _
noncomputable def ZeJ (te : DTE) (tl th : DTO) : DTE := fun Δ M Φ => te Δ M fun x M1 => tl Δ M1 fun l M2 => th Δ M2 fun u M3 => onT x fun ds => ¬ (HT.sIx ds.length 0 l = 0 ∧ HT.sIx ds.length ds.length u = ds.length) ∧ Φ (.dat (.tuple (cutD ds l u))) M3
end
end DL
namespace DL
open PySem PySem.Spec PyProof.Rows L2
noncomputable def Zaq : DTS := fun D Δ M => D.nx Δ M
noncomputable def Zax (t u : DTS) : DTS := fun D Δ M => t { D with nx := u D } Δ M
section
variable {X : Cx} {st : Stmt} {rest : List Stmt} {t u : DTS} {e : Expr} {te : DTE} {pos : Pos}
theorem ZY : DSs X [] Zaq := ⟨_, MY, fun σ H Δ M D E r e h k => k.nx σ H Δ M r Step.refl e h⟩
theorem Zf (h1 : DS X st t) (h2 : DSs X rest u) : DSs X (st :: rest) (Zax t u) := by
 obtain ⟨t1, p1, q1⟩ := h1
 obtain ⟨t2, p2, q2⟩ := h2
 refine ⟨_, ES p1 p2, fun σ H Δ M D E r e h k => ?_⟩
 refine q1 σ H Δ M { D with nx := u D } { E with nx := t2 E } r e h ⟨fun σ' H' Δ' M' r' st' e' hn => ?_, k.rt, k.bk, k.ct⟩
 exact q2 σ' H' Δ' M' D E r' e' hn (k.step st')
theorem Zi (h1 : DS X st t) : DSs X [st] t := by
 obtain ⟨t1, p1, q1⟩ := h1
 exact ⟨_, C3 p1, q1⟩
noncomputable def TF : DTS := fun D Δ M => D.bk Δ M
noncomputable def ZcP : DTS := fun D Δ M => D.ct Δ M
noncomputable def Rn (te : DTE) : DTS := fun D Δ M => te Δ M fun _ M1 => D.nx Δ M1
theorem Kq (he : DE X e te) (hs : swapsWith e none pos.line X.env = pure false := by rfl) : DS X (.Expr e pos) (Rn te) := by
 obtain ⟨t, p, q⟩ := he
 refine ⟨_, Nw p hs, fun σ H Δ M D E r e h k => ?_⟩
 exact q σ H Δ M _ _ r e h fun v H1 x M1 r1 st rv hx => k.nx σ H1 Δ M1 r1 st (e.step st) hx
noncomputable def ZdS (te : DTE) : DTS := fun D Δ M => te Δ M D.rt
theorem Zy (he : DE X e te) : DS X (.Return (some e) pos) (ZdS te) := by
 obtain ⟨t, p, q⟩ := he
 exact ⟨_, P7 p, fun σ H Δ M D E r e h k => q σ H Δ M _ _ r e h k.rt⟩
noncomputable def Zcr : DTS := fun D _ M => D.rt (.dat .none) M
noncomputable def Zdh (c : DTT) (t u : DTS) : DTS := fun D Δ M => c Δ M fun b M1 => if b = true then t D Δ M1 else u D Δ M1
theorem Q7 {c : Expr} {a b : List Stmt} {tc : DTT} (hc : DT X c tc) (ha : DSs X a t) (hb : DSs X b u) : DS X (.If c a b pos) (Zdh tc t u) := by
 obtain ⟨t0, p0, q0⟩ := hc
 obtain ⟨t1, p1, q1⟩ := ha
 obtain ⟨t2, p2, q2⟩ := hb
 refine ⟨_, Zcu p0 p1 p2, fun σ H Δ M D E r e h k => ?_⟩
 refine q0 σ H Δ M _ _ r e h fun c H1 M1 r1 st hc => ?_
 cases c with
 | true => rw [if_pos rfl]; exact q1 σ H1 Δ M1 D E r1 (e.step st) (by simpa using hc) (k.step st)
 | false => rw [if_neg Bool.false_ne_true]; exact q2 σ H1 Δ M1 D E r1 (e.step st) (by simpa using hc) (k.step st)
noncomputable abbrev DTG := DV → DSt → Mp → (DSt → Mp → Prop) → Prop
noncomputable abbrev Ew := List DV → DSt → Mp → (DSt → Mp → Prop) → Prop
noncomputable def DG (X : Cx) (tg : Expr) (τ : DTG) : Prop := ∃ t, PG X tg t ∧ ∀ v σ H x Δ M Φ (Q : L2.St → Hp → Prop), ZE X.K M H → QD X.K M H σ Δ → Qh X.K M H v x → τ x Δ M Φ →
 (∀ σ' H' Δ' M', ZE X.K M' H' → Step M H M' H' → QD X.K M' H' σ' Δ' → Φ Δ' M' → Q σ' H') → t v σ H Q
noncomputable def DGs (X : Cx) (ts : List Expr) (τ : Ew) : Prop := ∃ t, PGs X ts t ∧ ∀ vs σ H xs Δ M Φ (Q : L2.St → Hp → Prop), ZE X.K M H → QD X.K M H σ Δ → J8 X.K M H vs xs → τ xs Δ M Φ →
 (∀ σ' H' Δ' M', ZE X.K M' H' → Step M H M' H' → QD X.K M' H' σ' Δ' → Φ Δ' M' → Q σ' H') → t vs σ H Q
noncomputable def KS (i : Nat) : DTG := fun x Δ M Φ => Φ (Δ.set i (some x)) M
theorem ZG (i : Nat) {x : Str} (hN : X.N.Nodup) (hi : X.N[i]? = some x := by rfl) (hx : Loc X.env.scope x := by first | exact Or.inl rfl | exact Or.inr rfl) (hf : X.fn x = true ∨ X.env.scope.names.lookup x = some .local := by first | exact .inl rfl | exact .inr rfl | assumption) :
  DG X (.Name x pos) (KS i) :=
 ⟨_, BY hN hi hx hf, fun v σ H x Δ M Φ Q r e rv h k => k _ H _ M r Step.refl (e.set rv) h⟩
noncomputable def Zad : Ew := fun xs Δ M Φ => match xs with | [] => Φ Δ M | _ => False
noncomputable def Mn (t : DTG) (u : Ew) : Ew := fun xs Δ M Φ => match xs with | x :: r => t x Δ M fun Δ' M' => u r Δ' M' Φ | [] => False
theorem J6 : DGs X [] Zad := ⟨_, O7, fun vs σ H xs Δ M Φ Q r e rv h k => by
 cases xs with
 | cons x r => exact h.elim
 | nil =>
 have h2 : Φ Δ M := h
 cases rv
 exact ⟨rfl, k σ H Δ M r Step.refl e h2⟩⟩
theorem Z4 {es : List Expr} {t : DTG} {u : Ew} (h1 : DG X e t) (h2 : DGs X es u)
  (hs : (assignEach (e :: es) X.env).map (·.2) = assign e X.env :: (assignEach es X.env).map (·.2) := by rfl) : DGs X (e :: es) (Mn t u) := by
 obtain ⟨t1, p1, q1⟩ := h1
 obtain ⟨t2, p2, q2⟩ := h2
 refine ⟨_, Fb p1 p2 hs, fun vs σ H xs Δ M Φ Q r e rv h k => ?_⟩
 obtain ⟨x, xr, e1, h⟩ : ∃ x xr, xs = x :: xr ∧ t x Δ M fun Δ' M' => u xr Δ' M' Φ := by
  cases xs with
  | nil => exact h.elim
  | cons x xr => exact ⟨x, xr, rfl, h⟩
 subst e1
 cases rv with
 | cons ra rr =>
  refine ⟨_, _, rfl, q1 _ σ H x Δ M _ _ r e ra h fun σ' H' Δ' M' r' st e' h' => ?_⟩
  exact q2 _ σ' H' xr Δ' M' Φ Q r' e' (J8.step rr st) h' fun σ2 H2 Δ2 M2 r2 st2 e2 hΦ => k σ2 H2 Δ2 M2 r2 (st.trans st2) e2 hΦ
noncomputable def LJ : Nat → List PyData → (List DV → Prop) → Prop
 | 0, [], P => P []
 | n + 1, d :: r, P => LJ n r fun xs => P (.dat d :: xs)
 | 0, _ :: _, _ => False
 | _ + 1, [], _ => False
theorem Cv : ∀ {n : Nat} {ds : List PyData} {P : List DV → Prop}, LJ n ds P → ds.length = n ∧ P (ds.map DV.dat)
 | 0, [], _, h => ⟨rfl, h⟩
 | n + 1, d :: r, P, h => by
  obtain ⟨a, b⟩ := Cv (n := n) (ds := r) h
  exact ⟨by rw [List.length_cons, a], b⟩
 | 0, _ :: _, _, h => h.elim
 | _ + 1, [], _, h => h.elim
noncomputable def S0 (n : Nat) (t : Ew) : DTG := fun x Δ M Φ => onT x fun ds => LJ n ds fun xs => t xs Δ M Φ
theorem Dts.R0 {K : PySem.W.Frag} {M : Mp} {H : Hp} : ∀ {vs : List V} {ds : List PyData}, Dts K M H vs ds → J8 K M H vs (ds.map DV.dat)
 | _, _, .nil => .nil
 | _, _, .cons h1 h2 => .cons h1 (Dts.R0 h2)
theorem YK {es : List Expr} {k : Nat} {t : Ew} {n : Nat} (hc : X.calm = true) (h : DGs X es t) (hn : (assignEach es X.env).length = n := by rfl) (hst : (assignEach es X.env).findIdx? (·.1) = none := by rfl) : DG X (.Tuple es k pos) (S0 n t) := by
 obtain ⟨t1, p1, q1⟩ := h
 refine ⟨_, SD hc p1 hn hst, fun v σ H x Δ M Φ Q r e rv h k => ?_⟩
 replace h := Vr h
 obtain ⟨ds, rfl, h⟩ := h
 replace h := Cv h
 obtain ⟨hl, h⟩ := h
 obtain ⟨a, xs, rfl, h1, h2⟩ := rv.tup
 exact ⟨a, xs, rfl, h1.sq, by rw [h2.length]; exact hl, q1 xs σ H _ Δ M Φ Q r e h2.R0 h k⟩
noncomputable def Rp (to ti : DTE) : DTG := fun x Δ M Φ => to Δ M fun o M1 => ti Δ M1 fun i M2 => onO o fun l => onI i fun k => onD x fun d => Vg (M2 l) fun ds => ∃ j, ixN ds.length k = some j ∧ Φ Δ (ZF M2 l (.lst (ds.set j d)))
theorem BV {o i : Expr} {to ti : DTE} (ho : DE X o to) (hi : DE X i ti)
  (ha : ∀ v, assign (.Subscript o i pos) X.env v = (do
   let ov ← holding [v] (eval o X.env)
   let iv ← holding [v, ov] (eval i X.env)
   standAt pos
   holding [v, ov, iv] (setItem ov iv v)
   release [v, ov, iv] []) := by intro _; rfl) : DG X (.Subscript o i pos) (Rp to ti) := by
 obtain ⟨t1, p1, q1⟩ := ho
 obtain ⟨t2, p2, q2⟩ := hi
 refine ⟨_, PV p1 p2 set_list ha, fun v σ H x Δ M Φ Q r e rv h k => ?_⟩
 refine Snd.bin q1 q2 r e h fun w1 w2 H2 o' i' M2 r2 st ro ri hs => ?_
 replace hs := Jk hs
 obtain ⟨l, rfl, hs⟩ := hs
 replace hs := ZP hs
 obtain ⟨kk, rfl, hs⟩ := hs
 replace hs := Qa hs
 obtain ⟨d, rfl, hs⟩ := hs
 replace hs := Jv hs
 obtain ⟨ds, hm, j, hj, hΦ⟩ := hs
 obtain ⟨vs, g1, g2⟩ := r2.ls l ds hm
 cases (show w1 = .ref l from ro)
 have rv2 : Dt X.K M2 H2 v d := Dt.step st rv
 have st2 : Step M2 H2 (ZF M2 l (.lst (ds.set j d))) (upd H2 l (.lst (vs.set j v))) := Step.Mi hm
 refine ⟨l, vs, kk, j, rfl, ri.int, g1, by rw [g2.length]; exact hj, ?_⟩
 exact k σ _ Δ _ (r2.Yh st2 (g2.set rv2 j)) (st.trans st2) (e.step (st.trans st2)) hΦ
noncomputable def Zaa (te : DTE) (g : DTG) : DTS := fun D Δ M => te Δ M fun x M1 => g x Δ M1 D.nx
theorem VQ {tg : Expr} {g : DTG} (he : DE X e te) (hg : DG X tg g) (hs : swapsWithSole [tg] e pos.line X.env = pure false := by rfl) (hw : swappedStores [tg] e X.env = pure none := by rfl)
  (h1 : (assignEach [tg] X.env).map (·.2) = [assign tg X.env] := by rfl) : DS X (.Assign [tg] e pos) (Zaa te g) := by
 obtain ⟨t1, p1, q1⟩ := he
 obtain ⟨t2, p2, q2⟩ := hg
 refine ⟨_, SJ p1 p2 hs hw h1, fun σ H Δ M D E r e h k => ?_⟩
 refine q1 σ H Δ M _ _ r e h fun v H1 x M1 r1 st rv hx => ?_
 exact q2 v σ H1 x Δ M1 _ _ r1 (e.step st) rv hx fun σ' H' Δ' M' r' st' e' hn => k.nx σ' H' Δ' M' r' (st.trans st') e' hn
theorem ZA (i : Nat) {x : Str} {pos' : Pos} (hN : X.N.Nodup) (he : DE X e te) (hi : X.N[i]? = some x := by rfl) (hx : Loc X.env.scope x := by first | exact Or.inl rfl | exact Or.inr rfl) (hs : swapsWith e (some (.Name x pos')) pos.line X.env = pure false := by rfl)
  (hf : X.fn x = true ∨ X.env.scope.names.lookup x = some .local := by first | exact .inl rfl | exact .inr rfl | assumption) : DS X (.Assign [.Name x pos'] e pos) (Zaa te (KS i)) := by
 obtain ⟨t1, p1, q1⟩ := he
 refine ⟨_, LZ hN hi hx p1 hs hf, fun σ H Δ M D E r e h k => ?_⟩
 refine q1 σ H Δ M _ _ r e h fun v H1 x M1 r1 st rv hx => ?_
 exact k.nx _ H1 _ M1 r1 st ((e.step st).set rv) hx
noncomputable def Eo (to te : DTE) : DTE := fun Δ M Φ => to Δ M fun x M1 => onO x fun l => Vg (M1 l) fun _ => te Δ M1 fun y M2 => onD y fun d => Vg (M2 l) fun ds => ds.length < sizeLine ∧ Φ (.dat .none) (ZF M2 l (.lst (ds ++ [d])))
theorem Vt {o : Expr} {to : DTE} {apos cpos : Pos} (ho : DE X o to) (he : DE X e te) (hbase : attributeBase o "append" X.env (eval o X.env) = eval o X.env := by rfl)
  (hfew : ((backTo cpos (starEach [e] X.env)).all (fun x => !x.1) && (backToKw cpos (keywordEach [] X.env)).all (fun x => x.1.isSome)
   && decide ([e].length + ([] : List Keyword).length + (if ([] : List Keyword).isEmpty then 0 else 1) < 30)) = true := by rfl)
  (hline : (apos.endLine == cpos.line) = true := by rfl) (hs : starEach [e] X.env = (false, eval e X.env) :: starEach [] X.env := by rfl) (hplain : (backTo cpos (starEach [] X.env)).any (·.1) = false := by rfl) :
  DE X (.Call (.Attribute o "append" apos) [e] [] cpos) (Eo to te) := by
 obtain ⟨t1, p1, q1⟩ := ho
 obtain ⟨t2, p2, q2⟩ := he
 refine ⟨_, ZbI PySem.F.plainAttrs_list PySem.F.slot_list_append PySem.F.type_list_append B3 p1 (Jg p2 Xf hs) hbase hfew hline hs hplain, fun σ H Δ M Φ Q r e h k => ?_⟩
 refine q1 σ H Δ M _ _ r e h fun v H1 x M1 r1 st rv hx => ?_
 replace hx := Jk hx
 obtain ⟨l, rfl, hx⟩ := hx
 replace hx := Jv hx
 obtain ⟨oo, ho, hx⟩ := hx
 cases (show v = .ref l from rv)
 have ty : tyV X.K "list" (.ref l) H1 := by
  obtain ⟨vs, g1, _⟩ := r1.ls l oo ho
  exact .inl ⟨rfl, vs, SqL.of g1⟩
 refine ⟨ty, q2 σ H1 Δ M1 _ _ r1 (e.step st) hx fun w H2 y M2 r2 st2 rw2 hy => ?_⟩
 replace hy := Qa hy
 obtain ⟨d, rfl, hy⟩ := hy
 replace hy := Jv hy
 obtain ⟨ds, hm, hz, hy⟩ := hy
 obtain ⟨vs, g1, g2⟩ := r2.ls l ds hm
 have st3 : Step M2 H2 (ZF M2 l (.lst (ds ++ [d]))) (upd H2 l (.lst (vs ++ [w]))) := Step.Mi hm
 refine ⟨l, vs, w, rfl, rfl, g1, by rw [g2.length]; exact hz, ?_⟩
 exact k.dat (r2.Yh st3 (g2.append (.cons rw2 .nil))) (st.trans (st2.trans st3)) Dt.non hy
end
section
variable {X : Cx} {tg iter : Expr} {body : List Stmt} {g : DTG} {tb : DTS} {pos : Pos}
noncomputable def CB (g : DTG) (tb : DTS) (D : Qf) (ds : List PyData) (Δ : DSt) (M : Mp) : Prop :=
 ∃ J : Nat → DSt → Mp → Prop, J 0 Δ M ∧ (∀ i d Δ M, ds[i]? = some d → J i Δ M → g (.dat d) Δ M fun Δ2 M2 => tb { D with nx := J (i + 1), ct := J (i + 1), bk := D.nx } Δ2 M2) ∧ ∀ Δ M, J ds.length Δ M → D.nx Δ M
noncomputable def SR (te : DTE) (g : DTG) (tb : DTS) : DTS := fun D Δ M => te Δ M fun x M1 => onL x fun ds => CB g tb D ds Δ M1
noncomputable def Zcq (te : DTE) (g : DTG) (tb : DTS) : DTS := fun D Δ M => te Δ M fun x M1 => onT x fun ds => CB g tb D ds Δ M1
theorem Ed {te : DTE} (he : DE X iter te) (hg : DG X tg g) (hb : DSs X body tb) (hp : PassesOwn (model X.prog X.w) X.A X.env X.xe) (hc : X.calm = true) (hs : ∀ x, foldedSetIterable iter X.env x = pure x := by intro _; rfl) :
  DS X (.For tg iter body [] pos) (SR te g tb) := by
 obtain ⟨t1, p1, q1⟩ := he
 obtain ⟨t2, p2, q2⟩ := hg
 obtain ⟨t3, p3, q3⟩ := hb
 refine ⟨_, LO hp hc (MT p1) p2 p3 hs, fun σ H Δ M D E r e h k => ?_⟩
 refine q1 σ H Δ M _ _ r e h fun v H1 x M1 r1 st rv hx => ?_
 replace hx := Ra hx
 obtain ⟨ds, rfl, J, j0, jt, jd⟩ := hx
 obtain ⟨a, xs, rfl, h1, h2⟩ := rv.lst
 refine ⟨a, rfl, ⟨xs, h1.sq⟩, Hj (xs := xs) (fun i σ H => ∃ Δ M, ZE X.K M H ∧ Step M1 H1 M H ∧ QD X.K M H σ Δ ∧ J i Δ M) ⟨Δ, M1, r1, Step.refl, e.step st, j0⟩
  (fun i σ H _ ⟨Δ, M, _, st', _, _⟩ => (h1.step st').sq) (fun i y σ H hi ⟨Δ, M, r', st', e', j⟩ => ?_) (fun σ H ⟨Δ, M, r', st', e', j⟩ => ?_)⟩
 ·obtain ⟨d, hd, hy⟩ := h2.Zab hi
  refine q2 y σ H (.dat d) Δ M _ _ r' e' (Dt.step st' hy) (jt i d Δ M hd j) fun σ2 H2 Δ2 M2 r2 st2 e2 hb2 => ?_
  refine q3 σ2 H2 Δ2 M2 _ _ r2 e2 hb2 ?_
  have s12 : Step M1 H1 M2 H2 := st'.trans st2
  exact ⟨fun σ' H' Δ' M' a b c d => ⟨Δ', M', a, s12.trans b, c, d⟩, k.rt.step (st.trans s12), fun σ' H' Δ' M' a b c d => k.nx σ' H' Δ' M' a ((st.trans s12).trans b) c d,
   fun σ' H' Δ' M' a b c d => ⟨Δ', M', a, s12.trans b, c, d⟩⟩
 ·rw [h2.length] at j
  exact k.nx σ H Δ M r' (st.trans st') e' (jd Δ M j)
noncomputable def K9 (g : DTG) (tb : DTS) (D : Qf) (lo : Int) (n : Nat) (Δ : DSt) (M : Mp) : Prop :=
 ∃ J : Nat → DSt → Mp → Prop, J 0 Δ M ∧ (∀ i Δ M, i < n → J i Δ M → g (.dat (.int (lo + i))) Δ M fun Δ2 M2 => tb { D with nx := J (i + 1), ct := J (i + 1), bk := D.nx } Δ2 M2) ∧ ∀ Δ M, J n Δ M → D.nx Δ M
theorem Rq {g' : TG} {tb' : TS} {lo : Int} {n : Nat} (q2 : ∀ v σ H x Δ M Φ (Q : L2.St → Hp → Prop), ZE X.K M H → QD X.K M H σ Δ → Qh X.K M H v x → g x Δ M Φ →
  (∀ σ' H' Δ' M', ZE X.K M' H' → Step M H M' H' → QD X.K M' H' σ' Δ' → Φ Δ' M' → Q σ' H') → g' v σ H Q)
  (q3 : ∀ σ H Δ M D E, ZE X.K M H → QD X.K M H σ Δ → tb D Δ M → Yv X.K M H D E → tb' E σ H) {D : Qf} {E : Ends} {σ : L2.St} {H : Hp} {Δ : DSt} {M : Mp} (r : ZE X.K M H) (e : QD X.K M H σ Δ) (h : K9 g tb D lo n Δ M) (k : Yv X.K M H D E) :
  ∃ W : Nat → Nat → L2.St → Hp → Prop, (∃ m, W 0 m σ H) ∧ ∀ i m σ H, W i m σ H →
   ((Itr lo n).stop i H ∧ E.nx σ H) ∨ ((Itr lo n).go i H ∧ ∃ N : L2.St → Hp → Prop, (∀ σ' H', N σ' H' → ∃ m', m' < m ∧ W (i + 1) m' σ' H') ∧ ∀ x H', (Itr lo n).yld i H x H' → g' x σ H' fun σ2 H2 => tb' { E with nx := N, ct := N, bk := E.nx } σ2 H2) := by
 obtain ⟨J, j0, jt, jd⟩ := h
 refine BO (fun i σ' H' => ∃ Δ' M', ZE X.K M' H' ∧ Step M H M' H' ∧ QD X.K M' H' σ' Δ' ∧ J i Δ' M') ⟨Δ, M, r, Step.refl, e, j0⟩ (fun i σ1 H1 hi ⟨Δ1, M1, r', st', e', j⟩ => ?_) (fun σ1 H1 ⟨Δ1, M1, r', st', e', j⟩ => ?_)
 ·refine q2 _ σ1 H1 (.dat (.int (lo + i))) Δ1 M1 _ _ r' e' (Dt.int _) (jt i Δ1 M1 hi j) fun σ2 H2 Δ2 M2 r2 st2 e2 hb2 => ?_
  refine q3 σ2 H2 Δ2 M2 _ _ r2 e2 hb2 ?_
  have s12 : Step M H M2 H2 := st'.trans st2
  exact ⟨fun σ' H' Δ' M' a b c d => ⟨Δ', M', a, s12.trans b, c, d⟩, k.rt.step s12, fun σ' H' Δ' M' a b c d => k.nx σ' H' Δ' M' a (s12.trans b) c d,
   fun σ' H' Δ' M' a b c d => ⟨Δ', M', a, s12.trans b, c, d⟩⟩
 ·exact k.nx σ1 H1 Δ1 M1 r' st' e' (jd Δ1 M1 j)
noncomputable def InR (j : Int) : Prop := -(2 ^ 62) ≤ j ∧ j < 2 ^ 62
noncomputable def Ml (ta : DTA) (g : DTG) (tb : DTS) : DTS := fun D Δ M => ta Δ M fun xs M1 => on1 xs fun x => onI x fun j => InR j ∧ K9 g tb D 0 j.toNat Δ M1
theorem Vh {a : Expr} {ta : DTA} {p p2 : Pos} (hg0 : Gl X "range") (hm : X.mg "range" = none) (ha : DA X [a] ta) (hg : DG X tg g) (hb : DSs X body tb) (hp : PassesOwn (model X.prog X.w) X.A X.env X.xe) (hc : X.calm = true)
  (hs : starEach [a] X.env = [(false, eval a X.env)] := by rfl) (hs2 : ∀ x, foldedSetIterable (.Call (.Name "range" p) [a] [] p2) X.env x = pure x := by intro _; rfl) : DS X (.For tg (.Call (.Name "range" p) [a] [] p2) body [] pos) (Ml ta g tb) := by
 obtain ⟨t1, p1, q1⟩ := ha
 obtain ⟨t2, p2, q2⟩ := hg
 obtain ⟨t3, p3, q3⟩ := hb
 refine ⟨_, LO hp hc (Wg hg0 hm p1 hs) p2 p3 hs2, fun σ H Δ M D E r e h k => ?_⟩
 refine q1 σ H Δ M _ _ r e h fun vs H1 xs M1 r1 st rv hx => ?_
 replace hx := Zx hx
 obtain ⟨x, rfl, hx⟩ := hx
 replace hx := ZP hx
 obtain ⟨j, rfl, ⟨h1, h2⟩, hx⟩ := hx
 obtain ⟨v, rfl, hv⟩ := Paired.one rv
 exact ⟨j, by rw [Qh.int hv], h1, h2, Rq q2 q3 r1 (e.step st) hx (k.step st)⟩
noncomputable def S9 (ta : DTA) (g : DTG) (tb : DTS) : DTS := fun D Δ M => ta Δ M fun xs M1 => on2 xs fun x y => onI x fun i => onI y fun j => (InR i ∧ InR j) ∧ K9 g tb D i (j - i).toNat Δ M1
end
noncomputable abbrev DSp := List DV → Mp → DK → Prop
noncomputable def lift (K : PySem.W.Frag) (S : DSp) : Sp := fun vs H Q _ => ∃ xs M Φ, ZE K M H ∧ J8 K M H vs xs ∧ S xs M Φ ∧ Rch K M H Φ Q
noncomputable def SS (S : DSp) (t : DTA) : DTE := fun Δ M Φ => t Δ M fun xs M1 => S xs M1 Φ
section
variable {X : Cx} {CX : CXT} {k : Nat} {f : Addr} {fd : FuncData} {ps : List Str} {S : DSp} {E : XK} {x : Str} {p pos : Pos} {e : Expr} {es : List Expr} {t : DTA}
theorem Zg (F : ZZ X.prog X.w X.K X.mg X.base CX k f fd ps (lift X.K S)) (hr : Vw k X.A) (hg : Gl X x) (hm : X.mg x = some (.ref f)) (hk : PySem.W.keepIn X.K (.ref f) = true) (hb : Binds X.K fd ps []) (hx : Passes CX X E)
  (ha : DA X (e :: es) t) (hdb : (x == ("__debug__" : Str)) = false := by decide) (he : starEach (e :: es) X.env = (false, eval e X.env) :: starEach es X.env := by rfl) (hpl : (backTo pos (starEach es X.env)).any (·.1) = false := by rfl) :
  DE X (.Call (.Name x p) (e :: es) [] pos) (SS S t) := by
 obtain ⟨t1, p1, q1⟩ := ha
 refine ⟨_, Ua F hr hg hm hk hb .nil hx p1 hdb he hpl, fun σ H Δ M Φ Q r e h k => ?_⟩
 refine q1 σ H Δ M _ _ r e h fun vs H1 xs M1 r1 st rv hx => ?_
 show lift X.K S (vs ++ []) H1 Q E
 rw [List.append_nil]
 exact ⟨xs, M1, Φ, r1, rv, hx, k.step st⟩
end
section
variable {P : Program} {w : World} {K : PySem.W.Frag} {mg : Str → Option Value} {base : Heap}
theorem okD {x qual : Str} {st : Stmt} {f : Addr} {fd : FuncData} {N ps : List Str} {k : Nat} {S : DSp} (F : Fun K x qual st f fd) (Sc : Zt N ps (Ze st)) (len : ∀ xs M Φ, S xs M Φ → xs.length = ps.length)
  (hbody : ∀ (cdv : Value) (A : Around) (outer : List Env) (s : Shared) (H : Hp) (E : XK), Vw k (A.deeper (envOfC qual (Ze st) s.heap.objs.size f cdv)) →
   ∃ τ, DSs (G6 CX0 P w K mg base N qual (Ze st) f cdv A outer s H E).nox (Zo st) τ ∧ ∀ xs M Φ, S xs M Φ → τ { nx := fun _ M' => Φ (.dat .none) M', rt := Φ } (JU N xs) M) : ZZ P w K mg base CX0 (k + 1) f fd ps (lift K S) := by
 refine F.ok Sc (fun vs H Q E h => ?_) fun cdv A outer s H vs Q E hr h => ?_
 ·obtain ⟨xs, M, Φ, _, rv, hs, _⟩ := h
  rw [Paired.length rv]
  exact len xs M Φ hs
 ·obtain ⟨xs, M, Φ, r, rv, hs, kk⟩ := h
  obtain ⟨τ, ⟨t, p, q⟩, hτ⟩ := hbody cdv A outer s H E hr
  refine ⟨t, p, q (start N vs) H (JU N xs) M _ _ r (QD.start rv) (hτ xs M Φ hs) ⟨fun σ' H' Δ' M' r' st' e' hn => ?_, kk, fun _ _ _ _ _ _ _ h => h.elim, fun _ _ _ _ _ _ _ h => h.elim⟩⟩
  exact kk.dat r' st' Dt.non hn
end
end DL
namespace DL
open PySem PySem.Spec PyProof.Rows L2
section
variable {X : Cx} {k v : Expr} {pos : Pos}
noncomputable def At (X : Cx) (e : Expr) (τ : DTE) : Prop := ∃ t, PE X e t ∧ ∀ σ H Δ M Φ, QD X.K M H σ Δ → τ Δ M Φ → ∃ v x, Qh X.K M H v x ∧ Φ x M ∧ ∀ (H' : Hp) (Q : VK), Q v H' → t σ H' Q
theorem B2 (i : Nat) {x : Str} {pos : Pos} (hN : X.N[i]? = some x := by rfl) (hv : Vis X.env.scope x := by first | exact Or.inl rfl | exact Or.inr (Or.inl rfl) | exact Or.inr (Or.inr rfl)) (hd : (x == ("__debug__" : Str)) = false := by decide)
  (hcd : (x == ("__classdict__" : Str)) = false := by decide) : At X (.Name x pos) (Zbg i) := by
 refine ⟨_, C5 hN hv hd hcd, fun σ H Δ M Φ e h => ?_⟩
 replace h := LL h
 obtain ⟨x, e1, h⟩ := h
 obtain ⟨v, e2, q⟩ := e.at' i x e1
 exact ⟨v, x, q, h, fun H' Q hq => ⟨v, e2, hq⟩⟩
theorem P0 {x j pos} : At X (.Constant (.int x) j pos) (dC (.int x)) := ⟨_, Mf, fun _ H _ M Φ _ h => ⟨.int x, .dat (.int x), Dt.int x, h, fun _ _ hq => hq⟩⟩
noncomputable def MC : DTE := fun _ M Φ => Φ (.dat (.dict [])) M
theorem Xx : DE X (.Dict [] [] pos) MC := by
 refine ⟨_, EK, fun σ H Δ M Φ Q r e h k p hp => ?_⟩
 exact k _ _ (.dat (.dict [])) M (r.new hp) (Step.new hp) (Dt.dK (kvs := []) (ds := []) (r.tracked hp) ZT .nil) h
theorem ZdD {K : PySem.W.Frag} {M : Mp} {H : Hp} {v : V} {k : Key} (h : Dt K M H v (kD k)) : v = kV k := by
 cases k with
 | inl i => cases (show Dt K M H v (.int i) from h); rfl
 | inr x => cases (show Dt K M H v (.str x) from h); rfl
noncomputable def VU (x : DV) (P : Key → Prop) : Prop := match x with | .dat (.int i) => P (.inl i) | .dat (.str s) => P (.inr s) | _ => False
theorem FJ {x : DV} {P : Key → Prop} (h : VU x P) : ∃ k, x = .dat (kD k) ∧ P k := by
 unfold VU at h
 split at h
 ·exact ⟨_, rfl, h⟩
 ·exact ⟨_, rfl, h⟩
 ·exact h.elim
noncomputable def XR : List PyData → Option (List Key)
 | [] => some []
 | .int i :: r => (XR r).map (.inl i :: ·)
 | .str s :: r => (XR r).map (.inr s :: ·)
 | _ :: _ => none
theorem Ki : ∀ {ds : List PyData} {ks : List Key}, XR ds = some ks → ds = ks.map kD
 | [], _, h => by cases h; rfl
 | .int i :: r, ks, h => by
  rw [XR] at h
  cases e : XR r with
  | none => rw [e] at h; cases h
  | some k => rw [e] at h; cases h; rw [List.map_cons, ← Ki e]; rfl
 | .str i :: r, ks, h => by
  rw [XR] at h
  cases e : XR r with
  | none => rw [e] at h; cases h
  | some k => rw [e] at h; cases h; rw [List.map_cons, ← Ki e]; rfl
 | .none :: _, _, h => by cases h
 | .bool _ :: _, _, h => by cases h
 | .list _ :: _, _, h => by cases h
 | .tuple _ :: _, _, h => by cases h
 | .dict _ :: _, _, h => by cases h
noncomputable def SM (ds : List PyData) (P : List Key → Prop) : Prop := match XR ds with | some ks => P ks | none => False
theorem Ol {ds : List PyData} {P : List Key → Prop} (h : SM ds P) : ∃ ks, ds = ks.map kD ∧ P ks := by
 unfold SM at h
 split at h
 ·rename_i ks e
  exact ⟨ks, Ki e, h⟩
 ·exact h.elim
noncomputable def MF (tk tv : DTE) : DTE := fun Δ M Φ => tk Δ M fun x M1 => tv Δ M1 fun y M2 => VU x fun k => onD y fun d => Φ (.dat (.dict [(kD k, d)])) M2
theorem Fe {tk tv : DTE} (hk : At X k tk) (hv : At X v tv) : DE X (.Dict [some k] [v] pos) (MF tk tv) := by
 obtain ⟨t1, p1, q1⟩ := hk
 obtain ⟨t2, p2, q2⟩ := hv
 refine ⟨_, Nc (HP p1 p2 Nr) rfl rfl (by simp) (by simp), fun σ H Δ M Φ Q r e h kk p hp => ?_⟩
 obtain ⟨v1, x1, r1, h, a1⟩ := q1 σ H Δ M _ e h
 obtain ⟨v2, x2, r2, h, a2⟩ := q2 σ H Δ M _ e h
 obtain ⟨k, rfl, z1⟩ := FJ h
 obtain ⟨d, rfl, hf⟩ := Qa z1
 refine a1 _ _ (a2 _ _ ⟨ZT, [(k, v2)], ?_, by simp, ?_⟩)
 ·rw [ZdD r1]; rfl
 ·have e1 : YX [] [(k, v2)] = [(k, v2)] := by simp [YX, putK]
  rw [e1, DC]
  exact kk _ _ (.dat (.dict [(kD k, d)])) M (r.new hp) (Step.new hp) (Dt.dK (kvs := [(k, v2)]) (ds := [d]) (r.tracked hp) ZT (.cons (Dt.step (Step.new hp) r2) .nil)) hf
noncomputable def Sn (tk tv tk' tv' : DTE) : DTE := fun Δ M Φ => tk Δ M fun x M1 => tv Δ M1 fun y M2 => tk' Δ M2 fun x' M3 => tv' Δ M3 fun y' M4 => VU x fun k => onD y fun d => VU x' fun k' => onD y' fun d' => k ≠ k' ∧ Φ (.dat (.dict [(kD k, d), (kD k', d')])) M4
noncomputable def Zav (a b : Addr) (v : V) (h : Heap) : Prop := ∃ o es n u, h.get? a = some o ∧ o.cls = .type "dict" ∧ o.data = .dict es n ∧ es.toList.map (·.key) = [.ref b] ∧ es.toList.map (·.val) = [u] ∧ RelV v u
theorem Dm {tk tv : TE} (hu : X.A.units + 1 < cLine) (hk : PE X k tk) (hv : PE X v tv) : PE X (.Dict [some k] [v] pos) (fun σ H Q => ∀ p, H p = none → tk σ (upd H p (.dT [])) fun x H1 => tv σ H1 fun y H2 =>
  ∃ (b : Addr) (ks : List Key), x = .ref b ∧ SqT X.K H2 b (ks.map kV) ∧ H2 p = some (.dT []) ∧ ((p == sysModules) = false → Q (.ref p) (upd H2 p (.ext (Zav p b y))))) := by
 intro pins s σ H Q I q
 have hn := I.hok.fresh (Nat.le_refl s.heap.objs.size)
 have I1 := I.laid (a := s.heap.objs.size) (o := .dT []) (h' := s.heap.push { cls := .type "dict", data := .dict #[] }) (t' := s.toks) (fun _ _ q => Heap.get?_push_of_some _ q) (Nat.le_refl _) (Ld s.heap I.big)
 refine wpAny_Dict_any rfl rfl (by simp) (by simp) ?_
 refine pairTrees_cons_walk (thn (hk pins _ σ _ _ I1 (q _ hn)) fun u s1 ⟨x, H1, I2, rx, q1⟩ => thn (hv pins s1 σ H1 _ I2 q1) fun w2 s2 ⟨y, H2, I3, ry, q2⟩ => pairTrees_nil_walk ?_)
 obtain ⟨b, ks, rfl, eb, ep, q3⟩ := q2
 cases (show u = Value.ref b from rx)
 obtain ⟨z, hd, xs, rel, dd⟩ := Zcv I3.hok ep
 have rel0 : xs = [] := by cases rel; rfl
 subst rel0
 obtain ⟨its, rk, ⟨ob, g1, g2, n, g3⟩, _⟩ := I3.tuple eb
 have hkey : (tupleKind (Z3 X.prog X.w)).is s2.heap ks b := ⟨ob, its.toArray, n, g1, g2, g3, by simpa using YC rk⟩
 unfold storeAll
 rw [List.forIn_cons]
 refine wpAny_bind (wpAny_bind (wpAny_dictSet_heap (hsz := by simp) (show X.A.units < cLine by omega) hkey dd fun h' dd' hs => wpAny_pure ?_))
 dsimp only
 rw [List.forIn_nil]
 refine wpAny_pure ?_
 obtain ⟨q', es, ep', hq, h2, h3, h4, _, h5⟩ := dd'
 have one : Zav s.heap.objs.size b y h' := ⟨q', es, ep', w2, hq, h2.1, h3, by rw [h4]; rfl, by rw [h4]; rfl, ry⟩
 refine ⟨.ref s.heap.objs.size, upd H2 s.heap.objs.size (.ext (Zav s.heap.objs.size b y)), ?_, rfl, q3 hd⟩
 refine BU I3 (by rw [ep]; exact True.intro) hs ⟨q', hq⟩ ⟨one, ⟨q', hq⟩, fun _ _ hx kp => let ⟨o, es, n, u, a1, a2⟩ := hx; ⟨o, es, n, u, kp o a1, a2⟩⟩
noncomputable def B1 (tk tv : DTE) : DTE := fun Δ M Φ => tk Δ M fun x M1 => tv Δ M1 fun y M2 => onT x fun ds => SM ds fun ks => onD y fun d => Φ (.dat (.dict [(.tuple (ks.map kD), d)])) M2
theorem Ru {K : PySem.W.Frag} {M : Mp} {H : Hp} : ∀ {vs : List V} {ks : List Key}, Dts K M H vs (ks.map kD) → vs = ks.map kV
 | vs, [], h => by rw [List.map_nil] at h; cases h; rfl
 | vs, k :: ks, h => by
  rw [List.map_cons] at h
  cases h with
  | cons h1 h2 => rw [ZdD h1, Ru h2, List.map_cons]
theorem SqT.new {K : PySem.W.Frag} {H : Hp} {a p : Addr} {xs : List V} {o : HO} (h : SqT K H a xs) (hp : H p = none) : SqT K (upd H p o) a xs := by
 rcases h with (h | ⟨ob, h⟩) | h
 ·exact .inl (.inl (by rw [Zq (Zl h hp)]; exact h))
 ·exact .inl (.inr ⟨ob, by rw [Zq (Zl h hp)]; exact h⟩)
 ·exact .inr h
theorem DY {tk tv : DTE} (hu : X.A.units + 1 < cLine) (hk : At X k tk) (hv : At X v tv) : DE X (.Dict [some k] [v] pos) (B1 tk tv) := by
 obtain ⟨t1, p1, q1⟩ := hk
 obtain ⟨t2, p2, q2⟩ := hv
 refine ⟨_, Dm hu p1 p2, fun σ H Δ M Φ Q r e h kk p hp => ?_⟩
 obtain ⟨v1, x1, r1, h, a1⟩ := q1 σ H Δ M _ e h
 obtain ⟨v2, x2, r2, h, a2⟩ := q2 σ H Δ M _ e h
 obtain ⟨ds, rfl, z1⟩ := Vr h
 obtain ⟨ks, rfl, z2⟩ := Ol z1
 obtain ⟨d, rfl, hf⟩ := Qa z2
 obtain ⟨b, xs, rfl, g1, g2⟩ := r1.tup
 have exs := Ru g2
 subst exs
 refine a1 _ _ (a2 _ _ ⟨b, ks, rfl, SqT.new g1.sq hp, ZT, fun hsys => ?_⟩)
 rw [DC]
 exact kk _ _ (.dat (.dict [(.tuple (ks.map kD), d)])) M (r.new hp) (Step.new hp) (Dt.dX (φ := Zav p b v2) (r.tracked hp) ZT hsys (fun h' q => q) (Dt.step (Step.new hp) (Dt.tup g1 g2)) (Dt.step (Step.new hp) r2)) hf
end
end DL
namespace DL
open PySem PySem.Spec PyProof.Rows L2
mutual
noncomputable def cost : PyData → Nat
 | .none => 4
 | .bool _ => 5
 | .int _ => 1921
 | .str x => (reprText x).length
 | .list xs => ZI xs + 2
 | .tuple xs => ZI xs + 3
 | .dict kvs => Yj kvs + 2
noncomputable def ZI : List PyData → Nat
 | [] => 0
 | x :: xs => cost x + 2 + ZI xs
noncomputable def Yj : List (PyData × PyData) → Nat
 | [] => 0
 | (k, v) :: r => cost k + 2 + cost v + 2 + Yj r
end
theorem YR : ∀ (ts : List Str) (k : Nat) (acc : Str), (textFrom k acc ts).length ≤ acc.length + piled ts
 | [], k, acc => Nat.le_add_right _ _
 | t :: r, k, acc => by
  have h := YR r (k + 1) (acc ++ (if k > 0 then ", " else "" : String) ++ t)
  have e : (acc ++ (if k > 0 then ", " else "" : String) ++ t).length = acc.length + (if k > 0 then 2 else 0) + t.length := by
   rw [strLen_append, strLen_append]
   split <;> rfl
  have d1 : (if k > 0 then 2 else 0 : Nat) ≤ 2 := by split <;> omega
  rw [e] at h
  rw [piled_cons]
  show (textFrom (k + 1) _ r).length ≤ _
  omega
theorem En (ts : List Str) : (Str.join ", " ts).length ≤ piled ts := by
 by_cases h : ts = []
 ·subst h; exact Nat.le_of_eq rfl
 ·have := join_length_add ts h
  omega
mutual
theorem Q3 : ∀ d : PyData, d.showable = true → d.shown.length ≤ cost d
 | .none, _ => by simp only [PyData.shown, cost]; exact Nat.le_of_eq rfl
 | .bool b, _ => by
  simp only [PyData.shown, cost]
  cases b
  ·exact Nat.le_of_eq rfl
  ·exact (by decide : 4 ≤ 5)
 | .int i, h => by
  simp only [PyData.shown, cost]
  exact int_text_len_1921 (by simpa [PyData.showable] using h)
 | .str x, _ => by simp only [PyData.shown, cost]; exact Nat.le_refl _
 | .list xs, h => by
  have h1 := Ja xs (by simpa [PyData.showable] using h)
  have h2 := YR (PyData.shownAll xs) 0 "["
  have e1 : ((("[" : String) : Str)).length = 1 := rfl
  have e2 : ((("]" : String) : Str)).length = 1 := rfl
  simp only [PyData.shown, cost]
  unfold listText
  rw [strLen_append, e2]
  rw [e1] at h2
  omega
 | .tuple xs, h => by
  have h1 := Ja xs (by simpa [PyData.showable] using h)
  have h2 := En (PyData.shownAll xs)
  have e1 : ((("(" : String) : Str)).length = 1 := rfl
  have e3 : (((if (PyData.shownAll xs).length == 1 then ",)" else ")" : String) : Str)).length ≤ 2 := by split <;> decide
  simp only [PyData.shown, cost]
  unfold tupleText
  rw [strLen_append, strLen_append, e1]
  omega
 | .dict kvs, h => by
  have h1 := VN kvs (by simpa [PyData.showable] using h)
  have h2 := En (PyData.shownKv kvs)
  have e : (dictText (PyData.shownKv kvs)).length = 1 + (Str.join ", " (PyData.shownKv kvs)).length + 1 := by
   unfold dictText
   rw [strLen_append, strLen_append]; rfl
  simp only [PyData.shown, cost]
  omega
theorem Ja : ∀ xs : List PyData, PyData.showableAll xs = true → piled (PyData.shownAll xs) ≤ ZI xs
 | [], _ => by simp only [PyData.shownAll, ZI]; exact Nat.le_of_eq rfl
 | x :: xs, h => by
  have h' : x.showable = true ∧ PyData.showableAll xs = true := by simpa [PyData.showableAll] using h
  have h1 := Q3 x h'.1
  have h2 := Ja xs h'.2
  simp only [PyData.shownAll, ZI]
  rw [piled_cons]
  omega
theorem VN : ∀ kvs : List (PyData × PyData), PyData.showableKv kvs = true → piled (PyData.shownKv kvs) ≤ Yj kvs
 | [], _ => by simp only [PyData.shownKv, Yj]; exact Nat.le_of_eq rfl
 | (k, v) :: r, h => by
  have h' : (k.showable = true ∧ v.showable = true) ∧ PyData.showableKv r = true := by simpa [PyData.showableKv] using h
  have h1 := Q3 k h'.1.1
  have h2 := Q3 v h'.1.2
  have h3 := VN r h'.2
  have e : ((k.shown ++ ": " ++ v.shown : Str)).length = k.shown.length + 2 + v.shown.length := by rw [strLen_append, strLen_append]; rfl
  simp only [PyData.shownKv, Yj]
  rw [piled_cons, e]
  omega
end
theorem Shw.of {d : PyData} (s : d.showable = true) (m : (d.hasDict && ZR d) = false) (dp : d.depth ≤ 64) (z : cost d ≤ 1000000) : Shw d :=
 ⟨s, m, dp, Nat.le_trans (Q3 d s) (Nat.le_trans z (by rw [sizeLine_eq]; decide))⟩
structure Own (K : PySem.W.Frag) (mg : Str → Option Value) (x : Str) (st : Stmt) (ps : List Str) (f : Addr) (fd : FuncData) : Prop where
 F : Fun K x x st f fd
 m : mg x = some (.ref f)
 b : Binds K fd ps []
noncomputable def BZ : DSp := fun xs M Φ => ∃ ns : List Int, xs = [.dat (.list (ns.map PyData.int))] ∧ ns.length ≤ 63 ∧ ∀ M', Φ (.dat (.bool true)) M'
theorem Em {K : PySem.W.Frag} {H : Hp} {a : Addr} {ns : List Int} (hl : ns.length ≤ 63) (_ : ZaT H) (hS : SqL K H a (ns.map V.int)) : lift K BZ [.ref a] H (fun v _ => v = .bl true) fun _ _ _ => False := by
 refine ⟨[.dat (.list (ns.map PyData.int))], fun _ => none, fun x _ => x = .dat (.bool true), (show ZE K (fun _ => none) H from ⟨fun b o e => (by cases e)⟩), Paired.cons (Dt.lst ?_ (Dts.ints ns)) Paired.nil, ⟨ns, rfl, hl, fun _ => rfl⟩, fun v H' x M' _ _ rv hx => ?_⟩
 ·rcases hS with h | h
  ·exact .inl ⟨rfl, h⟩
  ·exact .inr h
 ·subst hx
  exact rv.bool
end DL
namespace DL
open PySem PySem.Spec PyProof.Rows L2
theorem UC {α : Type} {l : List α} {i : Int} (h0 : 0 ≤ i) (h1 : i < l.length) : ∃ d, atI l i = some d ∧ d ∈ l := by
 have hl : i.toNat < l.length := by omega
 refine ⟨l[i.toNat], ?_, List.getElem_mem hl⟩
 have q : atI l ((i.toNat : Nat) : Int) = some l[i.toNat] := Jx (by simp [hl])
 rw [show ((i.toNat : Nat) : Int) = i by omega] at q
 exact q
theorem SN : ixN 3 0 = some 0 := rfl
theorem RA : ixN 3 1 = some 1 := rfl
theorem Sk : ixN 3 2 = some 2 := rfl
theorem O5 {ns : List Int} {j : Int} (h0 : 0 ≤ j) (h1 : j < ns.length) : ∃ c : Int, atI (ns.map PyData.int) j = some (.int c) := by
 obtain ⟨d, e, hm⟩ := UC (l := ns.map PyData.int) h0 (by rw [List.length_map]; exact h1)
 obtain ⟨c, _, rfl⟩ := List.mem_map.mp hm
 exact ⟨c, e⟩
theorem Ec (x : Int) {m : Int} (h : 0 < m) : 0 ≤ x % m ∧ x % m < m := ⟨Int.emod_nonneg _ (by omega), Int.emod_lt_of_pos _ h⟩
noncomputable def sp1 (f : PyData → Bool) : DSp := fun xs M Φ => ∃ d, xs = [.dat d] ∧ Φ (.dat (.bool (f d))) M
theorem Ef (k : Int) (h : 0 ≤ k ∧ k ≤ 1000000) : ZcL 10 k := ⟨h.1, h.2, by decide⟩
theorem Ea {M : Mp} {a : Addr} {o : OO} (h : M a = none) : V5 (ZF M a o) a = M := by
 funext b
 unfold V5 ZF
 split
 ·rename_i e; rw [e, h]
 ·rfl
theorem Zu {p : Prop} [Decidable p] {A B : Prop} (h1 : p → A) (h2 : ¬ p → B) : if decide p = true then A else B := by
 by_cases h : p
 ·rw [decide_eq_true h, if_pos rfl]; exact h1 h
 ·rw [decide_eq_false h, if_neg Bool.false_ne_true]; exact h2 h
end DL
namespace DL
open PySem PySem.Spec PyProof.Rows L2
noncomputable def UK (env : Env) : List (Str × NameKind) → List (Str × Addr) → List (Str × Addr)
 | [], cs => cs
 | (n, k) :: r, cs => UK env r (if (k == NameKind.free) = true then (n, (env.cells.lookup n).getD 0) :: cs else cs)
theorem Xj {env : Env} (f : Str × NameKind → List (Str × Addr) → Sem (ForInStep (List (Str × Addr)))) : ∀ (l : List (Str × NameKind)) (cs : List (Str × Addr)),
  (∀ y ∈ l, ∀ cs, f y cs = pure (.yield (if (y.2 == NameKind.free) = true then (y.1, (env.cells.lookup y.1).getD 0) :: cs else cs))) → forIn l cs f = pure (UK env l cs)
 | [], cs, _ => by rw [List.forIn_nil]; rfl
 | (n, k) :: r, cs, h => by
  rw [List.forIn_cons, h _ List.mem_cons_self, pure_bind]
  exact Xj f r _ fun y hy => h y (List.mem_cons_of_mem _ hy)
theorem Jz {scope : Scope} {env : Env} (h : ∀ y ∈ scope.names, y.2 = .free → ∃ c, env.cells.lookup y.1 = some c) : closureFor scope env = pure (UK env scope.names []) := by
 simp only [closureFor]
 rw [Xj (env := env) _ scope.names [] (fun y hy cs => by
  obtain ⟨n, k⟩ := y
  by_cases hk : k = .free
  ·subst hk
   obtain ⟨c, e⟩ := h _ hy rfl
   have e' : env.cells.lookup n = some c := e
   simp only [beq_self_eq_true, if_true, cellOf, e', Option.getD_some, pure_bind]
  ·have : (k == NameKind.free) = false := by simpa using hk
   simp only [this, Bool.false_eq_true, if_false])]
 rfl
theorem U6 {env : Env} : ∀ {l : List (Str × NameKind)} {cs : List (Str × Addr)} {x : Str} {c : Addr}, (x, c) ∈ UK env l cs → (x, c) ∈ cs ∨ ((x, NameKind.free) ∈ l ∧ c = (env.cells.lookup x).getD 0)
 | [], _, _, _, h => .inl h
 | (n, k) :: r, cs, x, c, h => by
  rcases U6 (l := r) h with h | ⟨h1, h2⟩
  ·by_cases hk : k = .free
   ·subst hk
    rw [if_pos (by simp)] at h
    rcases List.mem_cons.mp h with h | h
    ·cases h
     exact .inr ⟨List.mem_cons_self, rfl⟩
    ·exact .inl h
   ·have : (k == NameKind.free) = false := by simpa using hk
    rw [if_neg (by rw [this]; exact Bool.false_ne_true)] at h
    exact .inl h
  ·exact .inr ⟨List.mem_cons_of_mem _ h1, h2⟩
theorem Gy {env : Env} : ∀ {l : List (Str × NameKind)} {cs : List (Str × Addr)} {x : Str}, ((x, NameKind.free) ∈ l ∨ ∃ c, (x, c) ∈ cs) → ∃ c, (x, c) ∈ UK env l cs
 | [], _, _, h => h.elim (fun z => nomatch z) id
 | (n, k) :: r, cs, x, h => by
  refine Gy (l := r) ?_
  rcases h with h | ⟨c, h⟩
  ·rcases List.mem_cons.mp h with h | h
   ·cases h
    exact .inr ⟨_, by rw [if_pos (by simp)]; exact List.mem_cons_self⟩
   ·exact .inl h
  ·refine .inr ⟨c, ?_⟩
   split
   ·exact List.mem_cons_of_mem _ h
   ·exact h
theorem Ya {β : Type} : ∀ {l : List (Str × β)} {x : Str} {c : β}, (x, c) ∈ l → ∃ c', l.lookup x = some c'
 | [], _, _, h => nomatch h
 | (n, d) :: r, x, c, h => by
  rw [List.lookup_cons]
  cases e : x == n with
  | true => exact ⟨d, rfl⟩
  | false =>
   rcases List.mem_cons.mp h with h | h
   ·cases h
    simp at e
   ·exact Ya h
theorem Z7 {env : Env} {names : List (Str × NameKind)} (hf : ∀ y ∈ names, y.2 = .free → ∃ c, env.cells.lookup y.1 = some c) {x : Str} {c : Addr} (h : (UK env names []).lookup x = some c) :
  env.cells.lookup x = some c ∧ (x, NameKind.free) ∈ names := by
 rcases U6 (PySem.mem_of_lookup h) with h | ⟨h1, h2⟩
 ·exact nomatch h
 ·obtain ⟨c', e⟩ := hf _ h1 rfl
  have e' : env.cells.lookup x = some c' := e
  rw [e', Option.getD_some] at h2
  subst h2
  exact ⟨e', h1⟩
theorem GK {env : Env} {names : List (Str × NameKind)} (hf : ∀ y ∈ names, y.2 = .free → ∃ c, env.cells.lookup y.1 = some c) {x : Str} (h : (x, NameKind.free) ∈ names) : ∃ c, (UK env names []).lookup x = some c ∧ env.cells.lookup x = some c := by
 obtain ⟨c, hm⟩ := Gy (env := env) (cs := []) (.inl h)
 obtain ⟨c', e⟩ := Ya hm
 exact ⟨c', e, (Z7 hf e).1⟩
noncomputable def Zn (X : Cx) (scope : Scope) (C : Addr) (N : List Str) (ex : List Addr) (s : Shared) (H : Hp) : Cx :=
 { X with N := N, s₀ := s, H₀ := H, env := compEnvC scope (UK X.env scope.names []) C X.env, outer := X.stack, ex := ex, fn := fun _ => false, pn := [], xe := fun _ _ => False }
noncomputable def Ql (ix : List (Option Nat)) (σ : L2.St) : L2.St := ix.map fun o => o.bind fun i => (σ[i]?).join
noncomputable def WM (ix : List (Option Nat)) (Δ : DSt) : DSt := ix.map fun o => o.bind fun i => (Δ[i]?).join
structure JV (X : Cx) (scope : Scope) (N : List Str) (ix : List (Option Nat)) : Prop where
 kind : scope.kind = .function
 cellF : ∀ y ∈ scope.names, y.2 ≠ .cell
 names : ∀ y ∈ scope.names, y.2 = .local → scope.names.lookup y.1 = some .local
 free : ∀ y ∈ scope.names, y.2 = .free → X.env.kindOf y.1 = some .cell
 len : N.length = ix.length
 cap : ∀ (j : Nat) (x : Str) (i : Nat), N[j]? = some x → ix[j]? = some (some i) → X.N[i]? = some x ∧ (x, NameKind.free) ∈ scope.names ∧ (relabel scope X.env).names.lookup x = some .cell
theorem CZ {ix : List (Option Nat)} {σ : L2.St} {j : Nat} {v : V} (h : (Ql ix σ)[j]? = some (some v)) : ∃ i, ix[j]? = some (some i) ∧ σ[i]? = some (some v) := by
 unfold Ql at h
 rw [List.getElem?_map] at h
 cases e : ix[j]? with
 | none => rw [e] at h; cases h
 | some o =>
  rw [e] at h
  cases o with
  | none => simp at h
  | some i =>
   refine ⟨i, rfl, ?_⟩
   have h' : (σ[i]?).join = some v := by simpa using h
   cases q : σ[i]? with
   | none => rw [q] at h'; cases h'
   | some o' => rw [q] at h'; exact congrArg some h'
theorem QD.cap {K : PySem.W.Frag} {M : Mp} {H : Hp} {σ : L2.St} {Δ : DSt} (h : QD K M H σ Δ) (ix : List (Option Nat)) : QD K M H (Ql ix σ) (WM ix Δ) := by
 refine ⟨by unfold Ql WM; rw [List.length_map, List.length_map], fun j x e => ?_⟩
 unfold WM at e
 rw [List.getElem?_map] at e
 cases q : ix[j]? with
 | none => rw [q] at e; cases e
 | some o =>
  rw [q] at e
  cases o with
  | none => simp at e
  | some i =>
   have e' : (Δ[i]?).join = some x := by simpa using e
   have e2 : Δ[i]? = some (some x) := by
    cases q2 : Δ[i]? with
    | none => rw [q2] at e'; cases e'
    | some o' => rw [q2] at e'; exact congrArg some e'
   obtain ⟨v, hv, rv⟩ := h.at' i x e2
   refine ⟨v, ?_, rv⟩
   unfold Ql
   rw [List.getElem?_map, q]
   simp [hv]
section
variable {X : Cx} {pins : List (Addr × Obj)} {σ : L2.St} {H2 : Hp} {s2 : Shared} {scope : Scope} {N : List Str} {ix : List (Option Nat)} {C : Addr} {fp : List Addr}
theorem MA (ok : JV X scope N ix) (I2 : Inv X pins σ H2 s2) : ∀ y ∈ scope.names, y.2 = .free → ∃ c, X.env.cells.lookup y.1 = some c := fun y hy hk => I2.ok.has y.1 (.inl (ok.free y hy hk))
theorem Y9 (ok : JV X scope N ix) (I2 : Inv X pins σ H2 s2) (f2 : ∀ b ∈ fp, WL X pins H2 b) (ex : ∀ b ∈ fp, ∃ o, s2.heap.get? b = some o) (hC : s2.heap.objs.size ≤ C) : (Zn X scope C N fp s2 H2).Ok := by
 have hf := MA ok I2
 refine ⟨I2.ok.mod, ok.kind, I2.ok.glob, I2.ok.blt, hC, fun x y c h1 h2 => I2.ok.inj x y c (Z7 hf h1).1 (Z7 hf h2).1, fun x hx => ?_, fun x c h => absurd h Bool.false_ne_true, I2.ok.hd, I2.ok.frames, .inl rfl, fun b hb => ?_, fun b o e => I2.bs b o e, Nat.le_trans I2.ok.bsz I2.sz,
  fun b o e hb => ?_, fun b hb z => ?_, I2.stack, I2.W0⟩
 ·have hx' : (relabel scope X.env).names.lookup x = some .cell ∨ (relabel scope X.env).names.lookup x = some .free := hx
  have key : (x, NameKind.free) ∈ scope.names := by
   have go : ∀ k', (relabel scope X.env).names.lookup x = some k' → (k' = .cell ∨ k' = .free) → (x, NameKind.free) ∈ scope.names := fun k' e hk => by
    have hm := PySem.mem_of_lookup e
    obtain ⟨⟨n, k⟩, hn, q⟩ := List.mem_map.mp hm
    by_cases hr : (k == NameKind.free && X.env.scope.kind == .function && X.env.kindOf n == some .cell) = true
    ·have q' : (n, NameKind.cell) = (x, k') := by rw [← q]; simp [hr]
     cases q'
     have : k = .free := by simp only [Bool.and_eq_true] at hr; simpa using hr.1.1
     subst this
     exact hn
    ·have q' : (n, k) = (x, k') := by rw [← q]; simp [hr]
     cases q'
     rcases hk with rfl | rfl
     ·exact absurd rfl (ok.cellF _ hn)
     ·exact hn
   rcases hx' with h | h
   ·exact go _ h (.inl rfl)
   ·exact go _ h (.inr rfl)
  obtain ⟨c, h1, _⟩ := GK hf key
  exact ⟨c, h1⟩
 ·obtain ⟨o, e⟩ := ex b hb
  exact ⟨Nat.ne_of_lt (Nat.lt_of_lt_of_le (Heap.lt_size e) hC), fun x c h => (f2 b hb).2.2.2.2.1 x c (Z7 hf h).1⟩
 ·rcases (f2 b hb).2.2.2.1 with z | z
  ·exact I2.ok.noex b o e z
  ·exact absurd (Nat.lt_of_lt_of_le (Heap.lt_size e) (Nat.le_trans I2.ok.bsz z)) (Nat.lt_irrefl _)
 ·rcases List.mem_cons.mp (I2.By b z) with z | z
  ·exact (f2 b hb).2.1 z
  ·exact (f2 b hb).2.2.1 z
theorem V6 (ok : JV X scope N ix) (I2 : Inv X pins σ H2 s2) (f2 : ∀ b ∈ fp, WL X pins H2 b) {s : Shared} {H : Hp} {m : Str → Option Value} (u : Un (frs X.stack) fp H2 H s2.heap s.heap) :
  ∀ (i : Nat) (x : Str) (v : V), N[i]? = some x → (Ql ix σ)[i]? = some (some v) → ∃ w, RelV v w ∧ Look (Zn X scope C N fp s2 H2).env s.heap m x w := fun j x v hN hv => by
 obtain ⟨i, hi, hs⟩ := CZ hv
 obtain ⟨hx, hm, hr⟩ := ok.cap j x i hN hi
 have hk : X.env.kindOf x = some .cell := ok.free _ hm rfl
 obtain ⟨m0, _, hl⟩ := I2.loc
 obtain ⟨w, r, l⟩ := hl i x v hx hs (.inr (.inl hk))
 refine ⟨w, r, .inr ⟨.inl hr, ?_⟩⟩
 rcases l with ⟨z, _⟩ | ⟨_, c, e, hc⟩
 ·rw [hk] at z; cases z
 ·obtain ⟨c', h1, h2⟩ := GK (MA ok I2) hm
  rw [e] at h2
  cases h2
  refine ⟨c, h1, ?_⟩
  obtain ⟨o, ho, hd⟩ := hc
  obtain ⟨sl, q⟩ := u.any ho (I2.freeC x c e) fun z => (f2 c z).2.2.2.2.1 x c e rfl
  exact ⟨_, q, hd⟩
end
end DL
namespace DL
open PySem PySem.Spec PyProof.Rows L2
section
variable {prog : Program} {w : World} {A : Around} {R : Result → Shared → Prop} {s : Shared}
theorem KA {elt target iter : Expr} {ifs : List Expr} {scope : Scope} {pos : Pos} {it acc : Value} {env : Env} (I : Nat → Shared → Prop)
  (turn : ∀ n s, I n s → wpAny (model prog w) A (pyNext it) (fun r s₁ => match r with
   | none => R (.ok .next) s₁
   | some v => wpAny (model prog w) A (letOwnedTupleGo target it v) (fun _ s₁' => wpAny (model prog w) A (assign target env v) (fun _ s₂ =>
     wpAny (model prog w) A (forIn ifs true fun c r => if r = true then do let ok ← isTrue c env (eval c env); pure (ForInStep.yield ok) else pure (ForInStep.yield r)) (fun ok s₃ =>
      if ok = true then wpAny (model prog w) A (eval elt env) (fun x s₄ =>
       wpAny (model prog w) A (call (.builtin "list.append") [acc, x]) (fun _ s₅ => ∃ m, m < n ∧ I m s₅) (fun _ _ => False) s₄) (fun _ _ => False) s₃
      else ∃ m, m < n ∧ I m s₃) (fun _ _ => False) s₂) (fun _ _ => False) s₁') (fun _ _ => False) s₁) (fun _ _ => False) s)
  (n : Nat) (h : I n s) : codeAny (model prog w) A (.compLoop (.ListComp elt [⟨target, iter, ifs, 0⟩] scope pos) 0 it acc env) R s := by
 refine codeAny_loop rfl I (fun n s hI => ?_) n h
 show wpAny _ A ((compTurn (.ListComp elt [⟨target, iter, ifs, 0⟩] scope pos) 0 it acc env).onRaise (fun x => do noteFrame x env; theTreesLotGoes x)) _ _ s
 refine wpAny_noted ?_
 rw [compTurn_list]
 refine wpAny_bind (wpAny_standAt (wpAny_bind (wpAny_mono (turn n s hI) (fun r s₁ h₁ => ?_) fun _ _ h' => h'.elim)))
 cases r with
 | none => exact wpAny_pure h₁
 | some v =>
  refine wpAny_bind (wpAny_mono h₁ (fun _ s₁' h₁' => ?_) fun _ _ h' => h'.elim)
  refine wpAny_bind (wpAny_mono h₁' (fun _ s₂ h₂ => wpAny_bind (wpAny_mono h₂ (fun ok s₃ h₃ => ?_) fun _ _ h' => h'.elim)) fun _ _ h' => h'.elim)
  cases ok with
  | false => exact wpAny_pure ⟨rfl, h₃⟩
  | true =>
   exact wpAny_bind (wpAny_bind (wpAny_mono h₃ (fun x s₄ h₄ => wpAny_bind (wpAny_mono h₄ (fun _ s₅ h₅ => wpAny_pure (wpAny_pure ⟨rfl, h₅⟩)) fun _ _ h' => h'.elim)) fun _ _ h' => h'.elim))
end
noncomputable def Yl (K : PySem.W.Frag) (J : It) (ds : List PyData) (M : Mp) (H : Hp) : Prop := ∀ M2 H2, Step M H M2 H2 → ∀ i,
 (i < ds.length → J.go i H2 ∧ ∀ x H', J.yld i H2 x H' → ZE K M2 H2 → ZE K M2 H' ∧ Step M2 H2 M2 H' ∧ ∃ d, ds[i]? = some d ∧ Dt K M2 H' x d) ∧ (ds.length ≤ i → J.stop i H2)
noncomputable abbrev VB := DSt → Mp → (List PyData → Mp → Prop) → Prop
noncomputable def DI (X : Cx) (tg iter : Expr) (src : VB) : Prop := ∃ wi, PI X tg iter wi ∧ ∀ σ H Δ M Ψ (R : It → Hp → Prop), ZE X.K M H → QD X.K M H σ Δ → src Δ M Ψ →
 (∀ J H' M' ds, ZE X.K M' H' → Step M H M' H' → Yl X.K J ds M' H' → Ψ ds M' → R J H') → wi σ H R
section
variable {X : Cx} {tg iter : Expr}
noncomputable def ZeF (te : DTE) : VB := fun Δ M Ψ => te Δ M fun x M1 => onL x fun ds => Ψ ds M1
noncomputable def Zde (te : DTE) : VB := fun Δ M Ψ => te Δ M fun x M1 => onT x fun ds => Ψ ds M1
theorem Mm {te : DTE} (he : DE X iter te) : DI X tg iter (Zde te) := by
 obtain ⟨t, p, q⟩ := he
 refine ⟨_, Tp p, fun σ H Δ M Ψ R dr er h k => ?_⟩
 refine q σ H Δ M _ _ dr er h fun v H1 x M1 r1 st rv hx => ?_
 replace hx := Vr hx
 obtain ⟨ds, rfl, hΨ⟩ := hx
 obtain ⟨a, xs, rfl, h1, h2⟩ := rv.tup
 refine ⟨a, rfl, ⟨xs, h1.sq⟩, k _ H1 M1 ds r1 st (fun M2 H2 st2 i => ⟨fun hi => ?_, fun hi => ?_⟩) hΨ⟩
 ·have hx : i < xs.length := by rw [h2.length]; exact hi
  refine ⟨⟨xs, xs[i], (h1.step st2).sq, by simp [hx]⟩, fun x H' y => ?_⟩
  obtain ⟨e, y⟩ := y
  obtain ⟨d, hd, hy⟩ := (h2.step st2).Zab (y xs (h1.step st2).sq)
  subst e
  exact fun r => ⟨r, Step.refl, d, hd, hy⟩
 ·exact ⟨xs, (h1.step st2).sq, by rw [h2.length]; exact hi⟩
noncomputable def Xv (lo : Int) (n : Nat) : List PyData := (List.range n).map fun (i : Nat) => PyData.int (lo + (i : Int))
theorem V0 (lo : Int) (n : Nat) : (Xv lo n).length = n := by unfold Xv; rw [List.length_map, List.length_range]
theorem Gf {lo : Int} {n i : Nat} (h : i < n) : (Xv lo n)[i]? = some (.int (lo + (i : Int))) := by
 unfold Xv
 rw [List.getElem?_map, List.getElem?_range h]
 rfl
theorem GB {K : PySem.W.Frag} {M : Mp} {H : Hp} (lo : Int) (n : Nat) : Yl K (Itr lo n) (Xv lo n) M H := fun M2 H2 st2 i => by
 rw [V0]
 refine ⟨fun hi => ⟨hi, fun x H' y => ?_⟩, fun hi => hi⟩
 obtain ⟨e, y⟩ := y
 subst y e
 exact fun r => ⟨r, Step.refl, _, Gf hi, Dt.int _⟩
noncomputable def TC (ta : DTA) : VB := fun Δ M Ψ => ta Δ M fun xs M1 => on1 xs fun x => onI x fun j => InR j ∧ Ψ (Xv 0 j.toNat) M1
theorem BH {a : Expr} {ta : DTA} {p p2 : Pos} (hg0 : Gl X "range") (hm : X.mg "range" = none) (ha : DA X [a] ta) (hs : starEach [a] X.env = [(false, eval a X.env)] := by rfl) : DI X tg (.Call (.Name "range" p) [a] [] p2) (TC ta) := by
 obtain ⟨t1, p1, q1⟩ := ha
 refine ⟨_, Wg hg0 hm p1 hs, fun σ H Δ M Ψ R dr er h k => ?_⟩
 refine q1 σ H Δ M _ _ dr er h fun vs H1 xs M1 r1 st rv hx => ?_
 replace hx := Zx hx
 obtain ⟨x, rfl, hx⟩ := hx
 replace hx := ZP hx
 obtain ⟨j, rfl, ⟨h1, h2⟩, hΨ⟩ := hx
 obtain ⟨v, rfl, hv⟩ := Paired.one rv
 exact ⟨j, by rw [Qh.int hv], h1, h2, k _ H1 M1 _ r1 st (GB 0 j.toNat) hΨ⟩
noncomputable def TJ (ta : DTA) : VB := fun Δ M Ψ => ta Δ M fun xs M1 => on2 xs fun x y => onI x fun i => onI y fun j => (InR i ∧ InR j) ∧ Ψ (Xv i (j - i).toNat) M1
theorem Dw {a b : Expr} {ta : DTA} {p p2 : Pos} (hg0 : Gl X "range") (hm : X.mg "range" = none) (ha : DA X [a, b] ta) (hs : starEach [a, b] X.env = [(false, eval a X.env), (false, eval b X.env)] := by rfl) (hs2 : starEach [b] X.env = [(false, eval b X.env)] := by rfl) :
  DI X tg (.Call (.Name "range" p) [a, b] [] p2) (TJ ta) := by
 obtain ⟨t1, p1, q1⟩ := ha
 refine ⟨_, BR hg0 hm p1 hs hs2, fun σ H Δ M Ψ R dr er h k => ?_⟩
 refine q1 σ H Δ M _ _ dr er h fun vs H1 xs M1 r1 st rv hx => ?_
 replace hx := QB hx
 obtain ⟨x, y, rfl, hx⟩ := hx
 replace hx := ZP hx
 obtain ⟨i, rfl, hx⟩ := hx
 replace hx := ZP hx
 obtain ⟨j, rfl, ⟨⟨a1, a2⟩, a3, a4⟩, hΨ⟩ := hx
 have h1 : -(2 ^ 62) ≤ i ∧ i < 2 ^ 62 ∧ -(2 ^ 62) ≤ j ∧ j < 2 ^ 62 := ⟨a1, a2, a3, a4⟩
 obtain ⟨v, u, rfl, hv, hu⟩ := Paired.two rv
 exact ⟨i, j, by rw [Qh.int hv, Qh.int hu], h1, k _ H1 M1 _ r1 st (GB i (j - i).toNat) hΨ⟩
end
noncomputable def Uh (ow : Bool) (Φ : DK) (acc : List PyData) (M : Mp) : Prop := match ow with | true => ∀ p, M p = none → Φ (.own p) (ZF M p (.lst acc)) | false => Φ (.dat (.list acc)) M
noncomputable def Et (ow : Bool) (src : VB) (ix : List (Option Nat)) (g : DTG) (tc : DTT) (te : DTE) : DTE := fun Δ M Φ => src Δ M fun ds M1 => ds.length ≤ sizeLine ∧ ∃ J : Nat → List PyData → Mp → Prop, J 0 [] M1 ∧
 (∀ i d acc M', ds[i]? = some d → J i acc M' → g (.dat d) (WM ix Δ) M' fun Δ2 M2 => tc Δ2 M2 fun b M3 => if b = true then te Δ2 M3 fun y M4 => onD y fun e => J (i + 1) (acc ++ [e]) M4 else J (i + 1) acc M3) ∧
 ∀ acc M', J ds.length acc M' → Uh ow Φ acc M'
noncomputable def DTs (X : Cx) (ifs : List Expr) (τ : DTT) : Prop := ∀ (pins : List (Addr × Obj)) (s : Shared) (σ : L2.St) (H : Hp) (Δ : DSt) (M : Mp) (Φ : Bool → Mp → Prop), L2.Inv X pins σ H s → ZE X.K M H → QD X.K M H σ Δ → τ Δ M Φ →
 wpAny (model X.prog X.w) X.A (forIn ifs true fun c r => if r = true then do let ok ← isTrue c X.env (eval c X.env); pure (ForInStep.yield ok) else pure (ForInStep.yield r))
  (fun b s' => ∃ H' M', L2.Inv X pins σ H' s' ∧ ZE X.K M' H' ∧ Step M H M' H' ∧ Φ b M') X.xe s
noncomputable def Zc9 : DTT := fun _ M Φ => Φ true M
theorem Vx {X : Cx} : DTs X [] Zc9 := fun pins s σ H Δ M Φ I dr er h => wpAny_tests_nil ⟨H, M, I, dr, Step.refl, h⟩
end DL
namespace DL
open PySem PySem.Spec PyProof.Rows L2
section
variable {X : Cx}
noncomputable abbrev CompSrc (ds : List PyData) (M1 : Mp) (Δ : DSt) (ix : List (Option Nat)) (g : DTG) (tc : DTT) (te : DTE) (ψ : List PyData → Mp → Prop) : Prop := ds.length ≤ sizeLine ∧ ∃ J : Nat → List PyData → Mp → Prop, J 0 [] M1 ∧
 (∀ i d acc M', ds[i]? = some d → J i acc M' → g (.dat d) (WM ix Δ) M' fun Δ2 M2 => tc Δ2 M2 fun b M3 => if b = true then te Δ2 M3 fun y M4 => onD y fun e => J (i + 1) (acc ++ [e]) M4 else J (i + 1) acc M3) ∧ ∀ acc M', J ds.length acc M' → ψ acc M'
set_option maxHeartbeats 2000000 in
theorem WK {elt tg iter : Expr} {ifs : List Expr} {scope : Scope} {pos ps : Pos} {src : VB} {N : List Str} {ix : List (Option Nat)} {g : DTG} {tc : DTT} {te : DTE} {use : Option (Value → Sem Unit)} {QQ : Value → Shared → Prop} {ψ : List PyData → Mp → Prop} (ok : JV X scope N ix) (hi : DI X tg iter src)
  (hg : ∀ C ex s H, DG (Zn X scope C N ex s H) tg g) (ht : ∀ C ex s H, DTs (Zn X scope C N ex s H) ifs tc) (he : ∀ C ex s H, DE (Zn X scope C N ex s H) elt te) (hc : X.calm = true)
  (hs : ∀ x, foldedSetIterable iter X.env x = pure x) {σ : L2.St} {H : Hp} {Δ : DSt} {M : Mp} {pins : List (Addr × Obj)} {s : Shared} (dr : ZE X.K M H) (er : QD X.K M H σ Δ) (h : src Δ M fun ds M1 => CompSrc ds M1 Δ ix g tc te ψ) (I : L2.Inv X pins σ H s)
  (hfin : ∀ (s4 : Shared) (C D : Addr) (H' : Hp) (M' : Mp) (vs : List V) (acc : List PyData), L2.Inv X pins σ (upd H' D (.lst vs)) s4 → H' D = none → ZE X.K M' H' → Step M H M' H' → Dts X.K M' H' vs acc → ψ acc M' → (∃ m, s4.heap.Ns C m) → WL X pins (upd H' D (.lst vs)) C →
   compPost (model X.prog X.w) X.A X.xe use QQ (.ref D) C (.ok .next) s4) :
  wpAny (model X.prog X.w) X.A (comprehension (.ListComp elt [⟨tg, iter, ifs, 0⟩] scope pos) scope X.env ps (newList []) false (eval iter X.env) use) QQ X.xe s := by
 obtain ⟨wi, pi, qi⟩ := hi
 refine wpAny_comprehension_free (use := use) (cl := UK X.env scope.names []) rfl hs (Jz (MA ok I)) ok.kind ok.names ?_
 show wpAny _ _ (eval iter X.env) _ _ s
 refine thn (pi pins s σ H (fun J H' => ∃ M' ds, ZE X.K M' H' ∧ Step M H M' H' ∧ Yl X.K J ds M' H' ∧ ds.length ≤ sizeLine ∧ ∃ W : Nat → List PyData → Mp → Prop, W 0 [] M' ∧
   (∀ i d acc M', ds[i]? = some d → W i acc M' → g (.dat d) (WM ix Δ) M' fun Δ2 M2 => tc Δ2 M2 fun b M3 => if b = true then te Δ2 M3 fun y M4 => onD y fun e => W (i + 1) (acc ++ [e]) M4 else W (i + 1) acc M3) ∧
   ∀ acc M', W ds.length acc M' → ψ acc M') I (qi σ H Δ M _ _ dr er h fun J H' M' ds a b c d => ⟨M', ds, a, b, c, d⟩)) fun x s1 h1 => thn h1 fun itv s2 h2 => ?_
 obtain ⟨it, fp, tn, J, H2, e, I2, T, st2, f2, M1, ds, dr1, stp, yl, hz, W, w0, wt, wd⟩ := h2
 subst e
 have exo : ∀ b ∈ fp, ∃ o, s2.heap.get? b = some o := fun b hb => let ⟨o, q, _⟩ := T.obj 0 _ st2 b hb; ⟨o, q⟩
 refine wpAny_newObj_type (wpAny_newFunctionEnv ok.cellF (by intro y hy; simp at hy) (fun h₁ hns₁ hsb₁ => ?_) ok.kind)
 dsimp only at hns₁ hsb₁ ⊢
 generalize hH2 : s2.heap.push { cls := .type "list", dict := none, data := .seq ([] : List Value).toArray } = HH at hns₁ hsb₁ ⊢
 have hC : HH.objs.size = s2.heap.objs.size + 1 := by rw [← hH2, Heap.size_push]
 have hDC : s2.heap.objs.size ≠ HH.objs.size := by rw [hC]; exact Nat.ne_of_lt (Nat.lt_succ_self _)
 have hCle : s2.heap.objs.size ≤ HH.objs.size := by rw [hC]; exact Nat.le_succ _
 have below : ∀ b, b < s2.heap.objs.size → b ≠ HH.objs.size ∧ b ≠ s2.heap.objs.size := fun b hb => ⟨by rw [hC]; exact Nat.ne_of_lt (Nat.lt_succ_of_lt hb), Nat.ne_of_lt hb⟩
 have old : ∀ b o, s2.heap.get? b = some o → h₁.get? b = some o := fun b o e => hsb₁.extBut b o (below b (Heap.lt_size e)).1 (Heap.get?_push_of_some _ (hH2 ▸ Heap.get?_push_of_some _ e))
 have hacc : h₁.get? s2.heap.objs.size = some { cls := .type "list", data := .seq ([] : List Value).toArray } := hsb₁.extBut _ _ hDC (Heap.get?_push_of_some _ (hH2 ▸ Heap.get?_push_size _ rfl))
 generalize hCC : HH.objs.size = C at *
 generalize hDD : s2.heap.objs.size = D at hDC hacc below hCle
 have hDs : s2.heap.objs.size ≤ D := Nat.le_of_eq hDD
 have hCs : s2.heap.objs.size ≤ C := by rw [hDD]; exact hCle
 have fD : ∀ b ∈ fp, b ≠ D ∧ b ≠ C := fun b hb => by
  obtain ⟨o, q⟩ := exo b hb
  exact ⟨(below b (by rw [← hDD]; exact Heap.lt_size q)).2, (below b (by rw [← hDD]; exact Heap.lt_size q)).1⟩
 have okY : (Zn X scope C N fp s2 H2).Ok := Y9 ok I2 f2 exo hCs
 have fsD : ∀ b ∈ frs X.stack, b < s2.heap.objs.size := fun b hb => by
  obtain ⟨_, o, ho, _⟩ := I2.stack.mem hb
  exact Heap.lt_size ho
 have cellD : ∀ x c, (Zn X scope C N fp s2 H2).env.cells.lookup x = some c → c < s2.heap.objs.size ∧ H2 c = none := fun x c e => by
  have e' := (Z7 (MA ok I2) e).1
  obtain ⟨v, q⟩ := I2.cell x c e'
  exact ⟨q.lt, I2.freeC x c e'⟩
 have fpY : ∀ {H' : Hp} {ps : List (Addr × Obj)}, (∀ b ∈ fp, H' b = none) → (∀ p ∈ ps, p.1 = D) → ∀ b ∈ fp, WL (Zn X scope C N fp s2 H2) ps H' b := fun {H' ps} hn hp b hb =>
  ⟨hn b hb, (fD b hb).2, okY.exfs b hb, .inl hb, (okY.exf b hb).2, fun p hp' z => by
   have q : p ∈ ps := hp'
   rw [hp p q] at z
   exact (fD b hb).1 z.symm⟩
 have Ku : ∀ (o : Obj), ∀ p ∈ [(D, o)], p.1 = D := fun o p hp => by
  have q : p = (D, o) := by simpa using hp
  rw [q]
 have reloc : ∀ {ps : List (Addr × Obj)} {σ' : L2.St} {H' : Hp} {s' : Shared} {o : Obj}, L2.Inv (Zn X scope C N fp s2 H2) ps σ' H' s' → s'.heap.get? D = some o → H' D = none → (∀ v, o.data ≠ .cell v) →
   L2.Inv (Zn X scope C N fp s2 H2) [(D, o)] (Ql ix σ) H' s' := fun {ps σ' H' s' o} J' hD hn hd => by
  obtain ⟨m, hm, _⟩ := J'.loc
  refine ⟨J'.ok, J'.os, J'.bare, J'.base, ⟨m, hm, fun i x v a b _ => V6 ok I2 f2 J'.base i x v a b⟩, J'.cell, J'.free, J'.freeC, fun p hp => ?_, J'.hok, ?_⟩
  ·have q : p = (D, o) := by
    have z : p ∈ ([] : List (Addr × Obj)) ++ [(D, o)] := hp
    simpa using z
   subst q
   exact ⟨hD, hn, hDC, fun z => absurd (fsD D z) (Nat.not_lt.mpr hDs), hd⟩
  ·show (Ql ix σ).length = N.length
   unfold Ql
   rw [List.length_map, ok.len]
 have start : L2.Inv (Zn X scope C N fp s2 H2) [(D, { cls := .type "list", data := .seq ([] : List Value).toArray })] (Ql ix σ) H2 { s2 with heap := h₁, toks := s2.toks + ([] : List (Str × Value)).length } := by
  refine ⟨okY, rfl, I2.bare, Un.kept old, ⟨_, hns₁, fun i x v a b _ => V6 ok I2 f2 (Un.kept old) i x v a b⟩, fun x c e => ?_, I2.hok.fresh hCs, fun x c e => (cellD x c e).2, fun p hp => ?_, I2.hok.kept old, ?_⟩
  ·obtain ⟨v, o, ho, hd⟩ := I2.cell x c (Z7 (MA ok I2) e).1
   exact ⟨v, o, old c o ho, hd⟩
  ·have q : p = (D, { cls := .type "list", data := .seq ([] : List Value).toArray }) := by
    have z : p ∈ ([] : List (Addr × Obj)) ++ [(D, { cls := .type "list", data := .seq ([] : List Value).toArray })] := hp
    simpa using z
   subst q
   exact ⟨hacc, I2.hok.fresh hDs, hDC, fun z => absurd (fsD D z) (Nat.not_lt.mpr hDs), fun v z => nomatch z⟩
  ·show (Ql ix σ).length = N.length
   unfold Ql
   rw [List.length_map, ok.len]
 have loop : ∀ s₃ : Shared, s₃ = { s2 with heap := h₁, toks := s2.toks + ([] : List (Str × Value)).length } →
   codeAny (model X.prog X.w) X.A (.compLoop (.ListComp elt [⟨tg, iter, ifs, 0⟩] scope pos) 0 (.ref it) (.ref D) (compEnvC scope (UK X.env scope.names []) C X.env)) (compPost (model X.prog X.w) X.A X.xe use QQ (.ref D) C) s₃ := by
  rintro s₃ rfl
  refine KA (fun n s' => ∃ (i : Nat) (acc : List PyData) (vs : List V) (its : List Value) (nn : Nat) (H' : Hp) (M' : Mp), L2.Inv (Zn X scope C N fp s2 H2) [(D, { cls := .type "list", data := .seq its.toArray nn })] (Ql ix σ) H' s' ∧
   tn i s'.heap ∧ (∀ b ∈ fp, H' b = none) ∧ ZE X.K M' H' ∧ Step M1 H2 M' H' ∧ Vals vs its ∧ Dts X.K M' H' vs acc ∧ W i acc M' ∧ i ≤ ds.length ∧ acc.length ≤ i ∧ n = ds.length - i) ?_ ds.length
   ⟨0, [], [], [], 0, H2, M1, start, T.keep _ _ _ st2 (fun b _ o e => old b o e), fun b hb => (f2 b hb).1, dr1, Step.refl, .nil, .nil, w0, Nat.zero_le _, Nat.le_refl _, rfl⟩
  rintro n s' ⟨i, acc, vs, its, nn, H', M', IY, ti, fr, dr', stp', rv, rd, wi', hil, hal, rfl⟩
  have pinD := IY.pin (D, { cls := .type "list", data := .seq its.toArray nn }) (by simp)
  have fok := fpY (ps := [(D, { cls := .type "list", data := .seq its.toArray nn })]) fr (Ku _)
  obtain ⟨ygo, ystop⟩ := yl M' H' stp' i
  by_cases hlt : i < ds.length
  ·obtain ⟨jgo, jyl⟩ := ygo hlt
   refine thn (T.item (Zn X scope C N fp s2 H2) rfl rfl rfl hc i _ s' (Ql ix σ) H' (fun _ _ => False) IY fok ti jgo) fun r s4 ⟨u, hr, h4⟩ => ?_
   subst hr
   refine thn h4 fun _ s5 ⟨x, H5, I5, r5, y5, st5, fr5⟩ => ?_
   obtain ⟨dr5, stp5, d, hd, hxd⟩ := jyl x H5 y5 dr'
   replace dr' := dr5
   replace stp' := stp'.trans stp5
   replace rd := rd.step stp5
   have I5' := I5.pinned (fpY (ps := [(D, { cls := .type "list", data := .seq its.toArray nn })]) fr5 (Ku _)) (T.obj _ _ st5)
   obtain ⟨tg', pg, qg⟩ := hg C fp s2 H2
   refine thn (pg _ s5 (Ql ix σ) H5 x u (fun σ6 H6 => ∃ Δ6 M6, ZE X.K M6 H6 ∧ Step M' H5 M6 H6 ∧ QD X.K M6 H6 σ6 Δ6 ∧ tc Δ6 M6 fun b M3 => if b = true then te Δ6 M3 fun y M4 => onD y fun e => W (i + 1) (acc ++ [e]) M4 else W (i + 1) acc M3) I5' r5
    (qg x (Ql ix σ) H5 (.dat d) (WM ix Δ) M' _ _ dr' ((er.step (stp.trans stp')).cap ix) hxd (wt i d acc M' hd wi') fun σ6 H6 Δ6 M6 a b c d => ⟨Δ6, M6, a, b, c, d⟩)) fun _ s6 ⟨σ6, H6, I6, Δ6, M6, dr6, stp6, er6, q6⟩ => ?_
   refine thn (ht C fp s2 H2 _ s6 σ6 H6 Δ6 M6 _ I6 dr6 er6 q6) fun b s7 ⟨H7, M7, I7, dr7, stp7, q7⟩ => ?_
   have keepD : ∀ {σz : L2.St} {Hz : Hp} {sz : Shared}, L2.Inv (Zn X scope C N fp s2 H2) ([(D, { cls := .type "list", data := .seq its.toArray nn })] ++ Xl fp s5.heap) σz Hz sz →
     sz.heap.get? D = some { cls := .type "list", data := .seq its.toArray nn } ∧ Hz D = none ∧ tn (i + 1) sz.heap ∧ ∀ b ∈ fp, Hz b = none := fun {σz Hz sz} Iz => by
    have a := Iz.pin (D, { cls := .type "list", data := .seq its.toArray nn }) (by simp)
    refine ⟨a.1, a.2.1, T.keep _ _ _ st5 fun b hb o e => (Iz.pin (b, o) (List.mem_append_right _ (List.mem_append_right _ (QG hb e)))).1, fun b hb => ?_⟩
    obtain ⟨o, e, _⟩ := T.obj _ _ st5 b hb
    exact (Iz.pin (b, o) (List.mem_append_right _ (List.mem_append_right _ (QG hb e)))).2.1
   cases b with
   | false =>
    have q7' : W (i + 1) acc M7 := by simpa using q7
    obtain ⟨a1, a2, a3, a4⟩ := keepD I7
    have st17 : Step M' H5 M7 H7 := stp6.trans stp7
    exact ⟨ds.length - (i + 1), by omega, i + 1, acc, vs, its, nn, H7, M7, reloc I7 a1 a2 (fun v z => nomatch z), a3, a4, dr7, stp'.trans st17, rv, rd.step st17, q7', hlt, by omega, rfl⟩
   | true =>
    have q7' : te Δ6 M7 fun y M4 => onD y fun e => W (i + 1) (acc ++ [e]) M4 := by simpa using q7
    obtain ⟨te', pe', qe'⟩ := he C fp s2 H2
    refine thn (pe' _ s7 σ6 H7 (fun v H8 => ∃ e M8, ZE X.K M8 H8 ∧ Step M7 H7 M8 H8 ∧ Dt X.K M8 H8 v e ∧ W (i + 1) (acc ++ [e]) M8) I7 (qe' σ6 H7 Δ6 M7 _ _ dr7 (er6.step stp7) q7' fun v H8 x8 M8 a b c d => by
     replace d := Qa d
     obtain ⟨e, rfl, w8⟩ := d
     exact ⟨e, M8, a, b, c, w8⟩)) fun y s8 ⟨v, H8, I8, r8, e, M8, dr8, stp8, dv8, w8⟩ => ?_
    obtain ⟨a1, a2, a3, a4⟩ := keepD I8
    have st18 : Step M' H5 M8 H8 := stp6.trans (stp7.trans stp8)
    have lv := rv.length
    have ld := rd.length
    refine call_meets PySem.F.slot_list_append ⟨_, a1, rfl⟩ PySem.F.entry_list_append (PySem.F.args_list_append_2 _ _) (PySem.list_append D its.toArray nn y (by rw [List.size_toArray]; omega)) ⟨a1, ?_⟩
    have q := PySem.IsL.update a1 (·.push y)
    have I8' : L2.Inv (Zn X scope C N fp s2 H2) [] σ6 H8 s8 := I8.Ve fun p hp => nomatch hp
    have I9 := I8'.turned (it := D) (h' := s8.heap.update D (Obj.mapSeq (·.push y))) (t' := s8.toks) (fun b o hb hu => (Heap.get?_update_other s8.heap (Obj.mapSeq (·.push y)) (Ne.symm hb)).trans hu) a2 hDC (.inr hDs)
     (fun x c e z => absurd (z ▸ (cellD x c e).1) (Nat.not_lt.mpr hDs)) (fun p hp => by have z : p ∈ ([] : List (Addr × Obj)) ++ [] := hp; simp at z)
    have ea : (its.toArray.push y) = (its ++ [y]).toArray := by simp
    rw [ea] at q
    refine ⟨ds.length - (i + 1), by omega, i + 1, acc ++ [e], vs ++ [v], its ++ [y], _, H8, M8, reloc I9 q a2 (fun v z => nomatch z), T.keep _ _ _ a3 (fun b hb o e => (Heap.get?_update_other s8.heap (Obj.mapSeq (·.push y)) (Ne.symm (fD b hb).1)).trans e), a4, dr8, stp'.trans st18,
     rv.append (.cons r8 .nil), (rd.step st18).append (.cons dv8 .nil), w8, hlt, by rw [List.length_append, List.length_singleton]; omega, rfl⟩
  ·have hie : i = ds.length := by omega
   refine thn (T.done (Zn X scope C N fp s2 H2) rfl rfl rfl hc i _ s' (Ql ix σ) H' (fun _ _ => False) IY fok ti (ystop (by omega))) fun r s4 ⟨hr, I4⟩ => ?_
   subst hr
   obtain ⟨m4, hm4, _⟩ := I4.loc
   have pD := I4.pin (D, { cls := .type "list", data := .seq its.toArray nn }) (by simp)
   have hCn : H' C = none := I4.free
   have hDn : H' D = none := pD.2.1
   have hok4 : HOk X.prog X.w (upd H' D (.lst vs)) s4.heap := fun b u e => by
    by_cases hb : b = D
    ·subst hb
     rw [ZT] at e
     cases e
     exact ⟨by have := rv.length; have := rd.length; omega, its, nn, rv, pD.1⟩
    ·rw [Zq hb] at e
     refine (I4.hok b u e).Eu (fun c v hc' q => q) (fun c q => ?_) fun c xs q => ?_
     ·rw [Zq (Zl q pD.2.1)]; exact q
     ·rw [Zq (Zl q pD.2.1)]; exact q
   have bu : Un (frs X.stack) fp H2 H' s2.heap s4.heap := I4.base
   have un4 : Un (frs X.stack) fp H2 (upd H' D (.lst vs)) s2.heap s4.heap := by
    have nD : ∀ b o, s2.heap.get? b = some o → b ≠ D ∧ b ≠ C := fun b o e => ⟨fun z => absurd (z ▸ Heap.lt_size e) (Nat.not_lt.mpr hDs), fun z => absurd (z ▸ Heap.lt_size e) (Nat.not_lt.mpr hCs)⟩
    refine ⟨fun b o e n hb hx => bu.keep b o e n hb hx, fun b o e n hb hx => bu.slot b o e n hb hx, fun b o e n hx => by rw [Zq (nD b o e).1]; exact bu.free b o e n hx, fun b o e hx => bu.there b o e hx, fun b xs e => ?_, fun b o xs e => ?_, fun b ps e => ?_⟩
    ·have q := bu.tups b xs e
     rw [Zq (Zl q pD.2.1)]; exact q
    ·have q := bu.frzs b o xs e
     rw [Zq (Zl q pD.2.1)]; exact q
    ·obtain ⟨mo, q⟩ := bu.tbls b ps e
     exact ⟨mo, by rw [Zq (Zl q pD.2.1)]; exact q⟩
   have os4 : s4.os = s2.os := I4.os
   have IX : L2.Inv X pins σ (upd H' D (.lst vs)) s4 := I2.CU (s' := s4) os4 un4 hok4 I4.bare fun b hb => ⟨(f2 b hb).2.2.2.1, (f2 b hb).2.1, (f2 b hb).2.2.2.2.1, (f2 b hb).2.2.2.2.2⟩
   subst hie
   exact hfin s4 C D H' M' vs acc IX hDn dr' (stp.trans stp') rd (wd acc M' wi') ⟨m4, hm4⟩ (I2.OY hCs (by rw [Zq (Ne.symm hDC)]; exact hCn))
 have hst₁ : tn 0 h₁ := T.keep _ _ _ st2 fun b _ o e => old b o e
 exact codeAny_compStart_list (loop _ rfl) (T.self _ 0 _ _ _ hst₁ (loop _ rfl))
theorem R8 {h h' : Heap} {C : Addr} {m : Str → Option Value} (n : h.Ns C m) (k : ∀ o, h.get? C = some o → h'.get? C = some o) : h'.Ns C m := by
 obtain ⟨o, es, ep, ho, r⟩ := n
 exact ⟨o, es, ep, k o ho, r⟩
theorem gone {pins : List (Addr × Obj)} {σ : L2.St} {H : Hp} {s : Shared} {C : Addr} {h' : Heap} (I : L2.Inv X pins σ H s) (f : WL X pins H C) (hsb : Heap.SameBut C s.heap h') : L2.Inv X pins σ H { s with heap := h' } :=
 I.turned (t' := s.toks) (fun b o hb e => hsb.extBut b o hb e) f.1 f.2.1 f.2.2.2.1 f.2.2.2.2.1 f.2.2.2.2.2
theorem Mo {ow : Bool} {Φ : DK} {Q : VK} {M M' : Mp} {H H' : Hp} {D : Addr} {vs : List V} {acc : List PyData} (dr' : ZE X.K M' H') (st : Step M H M' H') (rd : Dts X.K M' H' vs acc) (hDn : H' D = none) (fin : Uh ow Φ acc M') (k : Rch X.K M H Φ Q) : Q (.ref D) (upd H' D (.lst vs)) := by
 cases ow with
 | true =>
  have fin' : ∀ p, M' p = none → Φ (.own p) (ZF M' p (.lst acc)) := by simpa [Uh] using fin
  exact k _ _ (.own D) _ (dr'.Yh (Step.Js hDn) rd) (st.trans (Step.Js hDn)) rfl (fin' D (dr'.tracked hDn))
 | false =>
  have fin' : Φ (.dat (.list acc)) M' := by simpa [Uh] using fin
  exact k.dat (dr'.new hDn) (st.trans (Step.new hDn)) (Dt.VS dr' hDn rd) fin'
theorem Uk (ow : Bool) {elt tg iter : Expr} {ifs : List Expr} {scope : Scope} {pos : Pos} {src : VB} {N : List Str} {ix : List (Option Nat)} {g : DTG} {tc : DTT} {te : DTE} (ok : JV X scope N ix) (hi : DI X tg iter src)
  (hg : ∀ C ex s H, DG (Zn X scope C N ex s H) tg g) (ht : ∀ C ex s H, DTs (Zn X scope C N ex s H) ifs tc) (he : ∀ C ex s H, DE (Zn X scope C N ex s H) elt te) (hc : X.calm = true)
  (hs : ∀ x, foldedSetIterable iter X.env x = pure x := by intro _; rfl) : DE X (.ListComp elt [⟨tg, iter, ifs, 0⟩] scope pos) (Et ow src ix g tc te) := by
 refine ⟨fun σ H Q => ∀ pins s, L2.Inv X pins σ H s → wpAny (model X.prog X.w) X.A (eval (.ListComp elt [⟨tg, iter, ifs, 0⟩] scope pos) X.env) (EP X pins σ Q) X.xe s, fun pins s σ H Q I h => h pins s I, fun σ H Δ M Φ Q dr er h k pins s I => ?_⟩
 rw [eval_ListComp]
 refine WK (ψ := Uh ow Φ) ok hi hg ht he hc hs dr er h I fun s4 C D H' M' vs acc IX hDn dr' st rd fin hm f => ?_
 obtain ⟨m, hm⟩ := hm
 exact ⟨m, hm, fun h' hsb => ⟨.ref D, _, gone IX f hsb, rfl, Mo dr' st rd hDn fin k⟩⟩
theorem M0 (i : Nat) (ow : Bool) {x : Str} {pos' spos : Pos} (hN : X.N.Nodup) {elt tg iter : Expr} {ifs : List Expr} {scope : Scope} {pos : Pos} {src : VB} {N : List Str} {ix : List (Option Nat)} {g : DTG} {tc : DTT} {te : DTE} (ok : JV X scope N ix) (hi : DI X tg iter src)
  (hg : ∀ C ex s H, DG (Zn X scope C N ex s H) tg g) (ht : ∀ C ex s H, DTs (Zn X scope C N ex s H) ifs tc) (he : ∀ C ex s H, DE (Zn X scope C N ex s H) elt te) (hc : X.calm = true)
  (hs : ∀ x, foldedSetIterable iter X.env x = pure x := by intro _; rfl) (hin : X.N[i]? = some x := by rfl) (hx : Loc X.env.scope x := by first | exact Or.inl rfl | exact Or.inr rfl)
  (hsw : swapsWith (.ListComp elt [⟨tg, iter, ifs, 0⟩] scope pos) (some (.Name x pos')) spos.line X.env = pure true := by rfl)
  (hf : X.fn x = true ∨ X.env.scope.names.lookup x = some .local := by first | exact .inl rfl | exact .inr rfl | assumption) :
  DS X (.Assign [.Name x pos'] (.ListComp elt [⟨tg, iter, ifs, 0⟩] scope pos) spos) (Zaa (Et ow src ix g tc te) (KS i)) := by
 refine ⟨fun E σ H => ∀ pins s, L2.Inv X pins σ H s → wpAny (model X.prog X.w) X.A (exec (.Assign [.Name x pos'] (.ListComp elt [⟨tg, iter, ifs, 0⟩] scope pos) spos) X.env) (SP X pins E) X.xe s, fun pins s σ H E I h => h pins s I, fun σ H Δ M D E dr er h k pins s I => ?_⟩
 rw [exec_Assign_Name_used _ _ _ _ hsw]
 refine wpAny_bind (wpAny_standAt (wpAny_bind ?_))
 show wpAny _ _ (do let _ ← comprehension (.ListComp elt [⟨tg, iter, ifs, 0⟩] scope pos) scope X.env _ (newList []) false (eval iter X.env) (some (assign (.Name x pos') X.env))) _ _ s
 refine wpAny_bind (wpAny_mono (WK (QQ := fun _ s' => SP X pins E .next s') (use := some (assign (.Name x pos') X.env)) (ψ := Uh ow fun y M1 => D.nx (Δ.set i (some y)) M1) ok hi hg ht he hc hs dr er h I fun s4 C DD H' M' vs acc IX hDn dr' st rd fin hm f => ?_)
  (fun _ s' hq => wpAny_pure (wpAny_pure hq)) fun _ _ e => e)
 obtain ⟨m, hm⟩ := hm
 have hm0 := hm
 obtain ⟨oC, es, ep, hoC, hr1, hr2⟩ := hm0
 have IP : L2.Inv X (pins ++ [(C, oC)]) σ (upd H' DD (.lst vs)) s4 := IX.Ve fun p hp => by
  rcases List.mem_append.mp hp with hp | hp
  ·exact IX.pin p (List.mem_append_right _ hp)
  ·rw [List.mem_singleton.mp hp]
   exact ⟨hoC, f.1, f.2.1, f.2.2.1, fun v z => nomatch (hr1.symm.trans z)⟩
 have nxt : ∀ Q' : L2.St → Hp → Prop, (Q' (σ.set i (some (.ref DD))) (upd H' DD (.lst vs))) → wpAny (model X.prog X.w) X.A (assign (.Name x pos') X.env (.ref DD)) (fun _ s' => ∃ σ' H', L2.Inv X (pins ++ [(C, oC)]) σ' H' s' ∧ Q' σ' H') X.xe s4 := fun Q' hq =>
  BY (pos := pos') hN hin hx hf _ s4 σ _ (.ref DD) (.ref DD) Q' IP rfl hq
 have kq : E.nx (σ.set i (some (.ref DD))) (upd H' DD (.lst vs)) := by
  cases ow with
  | true =>
   have fin' : ∀ p, M' p = none → D.nx (Δ.set i (some (.own p))) (ZF M' p (.lst acc)) := by simpa [Uh] using fin
   have st2 : Step M H (ZF M' DD (.lst acc)) (upd H' DD (.lst vs)) := st.trans (Step.Js hDn)
   exact k.nx _ _ _ _ (dr'.Yh (Step.Js hDn) rd) st2 ((er.step st2).set (v := .ref DD) (x := .own DD) rfl) (fin' DD (dr'.tracked hDn))
  | false =>
   have fin' : D.nx (Δ.set i (some (.dat (.list acc)))) M' := by simpa [Uh] using fin
   have st2 : Step M H M' (upd H' DD (.lst vs)) := st.trans (Step.new hDn)
   exact k.nx _ _ _ _ (dr'.new hDn) st2 ((er.step st2).set (v := .ref DD) (x := .dat (.list acc)) (Dt.VS dr' hDn rd)) fin'
 show wpAny _ _ (assign (.Name x pos') X.env (.ref DD)) _ _ s4
 refine thn (nxt (fun σ' H' => σ' = σ.set i (some (.ref DD)) ∧ E.nx σ' H') ⟨rfl, kq⟩) fun _ s5 ⟨σ5, H5, I5, _, q5⟩ => ?_
 have p5 := I5.pin (C, oC) (by simp)
 refine ⟨m, R8 hm fun o ho => ?_, fun h' hsb => ⟨σ5, H5, ?_, q5⟩⟩
 ·rw [hoC] at ho
  cases ho
  exact p5.1
 ·have I6 : L2.Inv X pins σ5 H5 s5 := I5.Ve fun p hp => I5.pin p (List.mem_append_right _ (List.mem_append_left _ hp))
  exact gone I6 ⟨p5.2.1, f.2⟩ hsb
end
end DL
namespace DL
open PySem PySem.Spec PyProof.Rows L2
section
variable {X : Cx}
noncomputable def VR (xs : List DV) (M : Mp) (ns : List Int) : Prop := xs = [.dat (.list (ns.map PyData.int))] ∨ ∃ l, xs = [.own l] ∧ M l = some (.lst (ns.map PyData.int))
noncomputable def Nv : D1 := fun xs M Φ => ∃ ns : List Int, VR xs M ns ∧ ns.length < 64 ∧ ∀ ns' : List Int, ns'.Perm ns → ns'.Pairwise (· ≤ ·) → Φ (.dat (.list (ns'.map PyData.int))) M
noncomputable def Tj : D1 := fun xs M Φ => ∃ ns : List Int, VR xs M ns ∧ 0 < ns.length ∧ ∀ m ∈ ns, (∀ a ∈ ns, m ≤ a) → Φ (.dat (.int m)) M
noncomputable def PU : D1 := fun xs M Φ => ∃ ns : List Int, VR xs M ns ∧ 0 < ns.length ∧ ∀ m ∈ ns, (∀ a ∈ ns, a ≤ m) → Φ (.dat (.int m)) M
theorem Paired.three {α β : Type} {F : α → β → Prop} {l : List α} {b c d : β} (h : Paired F l [b, c, d]) : ∃ a a' a'', l = [a, a', a''] ∧ F a b ∧ F a' c ∧ F a'' d := by
 cases h with
 | cons h1 h2 =>
  obtain ⟨a, a', rfl, h3, h4⟩ := Paired.two h2
  exact ⟨_, a, a', rfl, h1, h3, h4⟩
noncomputable def δ3I (g : Int → Int → Int → Int) : D1 := fun xs M Φ => on3 xs fun x y z => onI x fun i => onI y fun j => onI z fun l => Φ (.dat (.int (g i j l))) M
theorem BE (hc : X.calm = true) : QO X (.builtin "max") (fun xs H Q => ∃ i j l, xs = [.int i, .int j, .int l] ∧ Q (.int (max i (max j l))) H) := by
 intro pins s σ H xs us Q I r h
 obtain ⟨i, j, l, rfl, q⟩ := h
 obtain ⟨u, hu⟩ : ∃ u, us = u := ⟨us, rfl⟩
 cases r with
 | cons r1 r2 =>
  obtain ⟨u2, u3, rfl, r3, r4⟩ := vals2 r2
  obtain ⟨t1, rfl⟩ := r1
  obtain ⟨t2, rfl⟩ := r3
  obtain ⟨t3, rfl⟩ := r4
  refine max_three_ints (I.ok.hd hc) fun h' tk k => ⟨.int (max i (max j l)), H, I.kept k, ?_, q⟩
  by_cases c1 : j > i
  ·rw [if_pos c1]
   by_cases c2 : l > j
   ·rw [if_pos c2]; exact ⟨t3, by rw [show max i (max j l) = l by omega]⟩
   ·rw [if_neg c2]; exact ⟨t2, by rw [show max i (max j l) = j by omega]⟩
  ·rw [if_neg c1]
   by_cases c2 : l > i
   ·rw [if_pos c2]; exact ⟨t3, by rw [show max i (max j l) = l by omega]⟩
   ·rw [if_neg c2]; exact ⟨t1, by rw [show max i (max j l) = i by omega]⟩
theorem Oj (hc : X.calm = true) : JX X (.builtin "max") (δ3I fun i j l => max i (max j l)) := by
 refine ⟨_, BE hc, fun vs H xs M Φ Q r rv h k => ?_⟩
 replace h := YQ h
 obtain ⟨x, y, z, rfl, h⟩ := h
 replace h := ZP h
 obtain ⟨i, rfl, h⟩ := h
 replace h := ZP h
 obtain ⟨j, rfl, h⟩ := h
 replace h := ZP h
 obtain ⟨l, rfl, q⟩ := h
 obtain ⟨v, u, w', rfl, h1, h2, h3⟩ := Paired.three rv
 exact ⟨i, j, l, by rw [Qh.int h1, Qh.int h2, Qh.int h3], k.dat r Step.refl (Dt.int _) q⟩
noncomputable def Dv : D1 := fun xs M Φ => on1 xs fun x => onQ x M fun ds => Φ (.dat (.tuple ds)) M
theorem QI : JX X (.type "tuple") Dv := by
 refine ⟨_, Kd, fun vs H xs M Φ Q r rv h k => ?_⟩
 replace h := Zx h
 obtain ⟨x, rfl, h⟩ := h
 replace h := Gh h
 obtain ⟨ds, hx, q⟩ := h
 have hx' : x = .dat (.list ds) ∨ x = .dat (.tuple ds) ∨ ∃ l, x = .own l ∧ M l = some (.lst ds) := by
  rcases hx with a | a | a
  ·exact .inr (.inl a)
  ·exact .inl a
  ·exact .inr (.inr a)
 rcases hx' with rfl | rfl | ⟨l, rfl, hm⟩
 ·obtain ⟨v, rfl, h1⟩ := Paired.one rv
  obtain ⟨p, ys, rfl, g1, g2⟩ := Qh.lst h1
  exact ⟨p, ys, rfl, .inl ⟨g1.sq, fun l hl => k.dat (r.new hl) (Step.new hl) (Dt.Xp r hl g2) q⟩⟩
 ·obtain ⟨v, rfl, h1⟩ := Paired.one rv
  obtain ⟨p, ys, rfl, g1, g2⟩ := Qh.tup h1
  exact ⟨p, ys, rfl, .inr ⟨g1.sq, k.dat r Step.refl (Dt.tup g1 g2) q⟩⟩
 ·obtain ⟨v, rfl, h1⟩ := Paired.one rv
  cases (show v = .ref l from h1)
  obtain ⟨ws, g1, g2⟩ := r.ls l _ hm
  exact ⟨l, ws, rfl, .inl ⟨SqL.of g1, fun l hl => k.dat (r.new hl) (Step.new hl) (Dt.Xp r hl g2) q⟩⟩
noncomputable def onW (x : DV) (P : List PyData → Prop) : Prop := match x with | .dat (.tuple ds) => P ds | .dat (.list ds) => P ds | _ => False
noncomputable def okIn (d : PyData) (ds : List PyData) : Bool := d.canLay0 && PyData.canLayAll0 ds && Nat.ble d.depth 64
noncomputable def δIn : D2 := fun x y M Φ => onD x fun d => onW y fun ds => okIn d ds = true ∧ Φ (.dat (.bool (ds.any fun e => PyData.eqv e d))) M
noncomputable def NX (to te : DTE) : DTE := fun Δ M Φ => to Δ M fun x M1 => onO x fun l => Vg (M1 l) fun _ => te Δ M1 fun y M2 => onO y fun b => Vg (M2 l) fun ds => Vg (M2 b) fun es => b ≠ l ∧ ds.length + es.length ≤ sizeLine ∧ Φ (.dat .none) (V5 (ZF M2 l (.lst (ds ++ es))) b)
noncomputable def Zfp (te : DTE) (tl th : DTO) : DTE := fun Δ M Φ => te Δ M fun x M1 => tl Δ M1 fun l M2 => th Δ M2 fun u M3 => onL x fun ds => Φ (.dat (.list (cutD ds l u))) M3
noncomputable def ED (scope sc : Scope) : List (Str × NameKind) := scope.names.map fun (n, k) => if (k == .free && sc.kind == .function && sc.names.lookup n == some .cell) then (n, .cell) else (n, k)
noncomputable def TM (sc : Scope) (XN : List Str) (scope : Scope) (N : List Str) (ix : List (Option Nat)) (j : Nat) : Bool :=
 match N[j]?, ix[j]? with
 | some x, some (some i) => decide (XN[i]? = some x) && (decide ((x, NameKind.free) ∈ scope.names) && decide ((ED scope sc).lookup x = some .cell))
 | _, _ => true
theorem QZ {sc : Scope} {XN : List Str} {scope : Scope} {N : List Str} {ix : List (Option Nat)} (hsc : X.env.scope = sc) (hN : X.N = XN)
  (h : scope.kind = .function ∧ (∀ y ∈ scope.names, y.2 ≠ .cell) ∧ (∀ y ∈ scope.names, y.2 = .local → scope.names.lookup y.1 = some .local) ∧ (∀ y ∈ scope.names, y.2 = .free → sc.names.lookup y.1 = some .cell) ∧ N.length = ix.length ∧
   ∀ j ∈ List.range N.length, TM sc XN scope N ix j = true) : JV X scope N ix := by
 obtain ⟨h1, h2, h3, h4, h5, h6⟩ := h
 subst hsc hN
 refine ⟨h1, h2, h3, h4, h5, fun j x i hx hi => ?_⟩
 have hj : j < N.length := (List.getElem?_eq_some_iff.mp hx).1
 have q := h6 j (List.mem_range.mpr hj)
 unfold TM at q
 rw [hx, hi] at q
 simp only [Bool.and_eq_true, decide_eq_true_eq] at q
 exact ⟨q.1, q.2.1, q.2.2⟩
end
end DL
namespace DL
open PySem PySem.Spec PyProof.Rows L2
theorem take_snoc {α β : Type} {l : List α} {i : Nat} {a : α} (f : α → β) (h : l[i]? = some a) : (l.take i).map f ++ [f a] = (l.take (i + 1)).map f := by
 rw [List.take_add_one, h, List.map_append]
 rfl
theorem BK {α β : Type} {l : List α} {f : α → β} {i : Nat} {b : β} (h : (l.map f)[i]? = some b) : ∃ a, l[i]? = some a ∧ f a = b := by
 rw [List.getElem?_map] at h
 cases q : l[i]? with
 | none => rw [q] at h; cases h
 | some a => rw [q] at h; exact ⟨a, rfl, by simpa using h⟩
noncomputable def gc (Φ : DK) : DK := fun x M => ∃ ps : List Addr, Φ x (ps.foldl V5 M)
theorem RO {K : PySem.W.Frag} {M : Mp} {H : Hp} {Φ : DK} {Q : VK} (k : Rch K M H Φ Q) {v : V} {H' : Hp} {x : DV} : ∀ (ps : List Addr) (M' : Mp), ZE K M' H' → Step M H M' H' → Qh K M' H' v x → Φ x (ps.foldl V5 M') → Q v H'
 | [], M', r, st, rv, f => k v H' x M' r st rv f
 | p :: ps, M', r, st, rv, f => RO k ps (V5 M' p) r.frz (st.trans Step.frz) (rv.step Step.frz) f
theorem Mt {K : PySem.W.Frag} {M : Mp} {H : Hp} {Φ : DK} {Q : VK} (k : Rch K M H Φ Q) : Rch K M H (gc Φ) Q := fun _ _ _ M' r st rv ⟨ps, f⟩ => RO k ps M' r st rv f
theorem okG {P : Program} {w : World} {K : PySem.W.Frag} {mg : Str → Option Value} {base : Heap} {x qual : Str} {st : Stmt} {f : Addr} {fd : FuncData} {N ps : List Str} {k : Nat} {S : DSp} (F : Fun K x qual st f fd) (Sc : Zt N ps (Ze st)) (len : ∀ xs M Φ, S xs M Φ → xs.length = ps.length)
  (hbody : ∀ (cdv : Value) (A : Around) (outer : List Env) (s : Shared) (H : Hp) (E : XK), Vw k (A.deeper (envOfC qual (Ze st) s.heap.objs.size f cdv)) →
   ∃ τ, DSs (G6 CX0 P w K mg base N qual (Ze st) f cdv A outer s H E).nox (Zo st) τ ∧ ∀ xs M Φ, S xs M Φ → τ { nx := fun _ M' => gc Φ (.dat .none) M', rt := gc Φ } (JU N xs) M) : ZZ P w K mg base CX0 (k + 1) f fd ps (lift K S) := by
 refine F.ok Sc (fun vs H Q E h => ?_) fun cdv A outer s H vs Q E hr h => ?_
 ·obtain ⟨xs, M, Φ, _, rv, hs, _⟩ := h
  rw [Paired.length rv]
  exact len xs M Φ hs
 ·obtain ⟨xs, M, Φ, r, rv, hs, kk⟩ := h
  obtain ⟨τ, ⟨t, p, q⟩, hτ⟩ := hbody cdv A outer s H E hr
  refine ⟨t, p, q (start N vs) H (JU N xs) M _ _ r (QD.start rv) (hτ xs M Φ hs) ⟨fun σ' H' Δ' M' r' st' e' hn => ?_, Mt kk, fun _ _ _ _ _ _ _ h => h.elim, fun _ _ _ _ _ _ _ h => h.elim⟩⟩
  exact (Mt kk).dat r' st' Dt.non hn
theorem Su {Φ : DK} {x : DV} {M : Mp} {p : Addr} {o : OO} (hp : M p = none) (h : Φ x M) : gc Φ x (ZF M p o) := ⟨[p], by
 show Φ x (V5 (ZF M p o) p)
 rw [Ea hp]; exact h⟩
theorem XQ {n k : Nat} (h : n < 2 ^ k) (hk : 0 < k) : n.log2 < k := by
 by_cases h0 : n = 0
 ·subst h0; simpa using hk
 ·exact (Nat.log2_lt h0).mpr h
noncomputable def Mid (i : Int) : Prop := -(10 ^ 70) ≤ i ∧ i ≤ 10 ^ 70
theorem Mid.show {i : Int} (h : Mid i) : (PyData.int i).showable = true := by
 have h1 : i.natAbs.log2 < 240 := XQ (by unfold Mid at h; omega) (by decide)
 simp only [PyData.showable, decide_eq_true_eq]
 omega
end DL
namespace DL
open PySem PySem.Spec PyProof.Rows L2
section
variable {X : Cx}
noncomputable def Tq : D1 := fun xs M Φ => ∃ ns : List Int, VR xs M ns ∧ Φ (.dat (.int ns.sum)) M
theorem KJ : ∀ {bs : List Bool} {us : List Value}, Vals (bs.map V.bl) us → ∀ (i : Nat) (v : Value), us[i]? = some v → ∃ b, bs[i]? = some b ∧ v = .bool b
 | [], _, r, i, v, e => by rw [List.map_nil] at r; cases r; simp at e
 | b :: bs, _, r, i, v, e => by
  rw [List.map_cons] at r
  cases r with
  | cons r1 r2 =>
   cases i with
   | zero =>
    simp at e
    subst e
    exact ⟨b, rfl, r1⟩
   | succ i => simpa using KJ r2 i v (by simpa using e)
theorem GX (bs : List Bool) : ((List.range bs.length).all fun i => (bs[i]?).getD true) = bs.all id := by
 rw [Bool.eq_iff_iff, List.all_eq_true, List.all_eq_true]
 constructor
 ·intro h b hb
  obtain ⟨i, hi, e⟩ := List.getElem_of_mem hb
  have q := h i (List.mem_range.mpr hi)
  rw [List.getElem?_eq_getElem hi, Option.getD_some, e] at q
  exact q
 ·intro h i hi
  have hi' := List.mem_range.mp hi
  rw [List.getElem?_eq_getElem hi', Option.getD_some]
  exact h _ (List.getElem_mem hi')
theorem Ck {s : Shared} {h' : Heap} {o : Obj} (hk : ∀ b x, b ∉ [s.heap.objs.size] → (s.heap.push o).get? b = some x → h'.get? b = some x) : ∀ b x, s.heap.get? b = some x → h'.get? b = some x :=
 fun b x e => hk b x (fun hm => absurd (Heap.lt_size e) (by rw [List.mem_singleton.mp hm]; exact Nat.lt_irrefl _)) (Heap.get?_push_of_some _ e)
theorem CK (hc : X.calm = true) : QO X (.builtin "all") (fun xs H Q => ∃ (p : Addr) (bs : List Bool), xs = [.ref p] ∧ SqL X.K H p (bs.map V.bl) ∧ Q (.bl (bs.all id)) H) := by
 intro pins s σ H xs us Q I r h
 obtain ⟨p, bs, rfl, hq, q⟩ := h
 obtain ⟨u, rfl, rx⟩ := vals1 r
 cases rx
 obtain ⟨its, rv, pl, hz⟩ := I.list hq
 have hl := pl.isList
 have hlt : p < s.heap.objs.size := by obtain ⟨_, e, _⟩ := hl; exact Heap.lt_size e
 refine call_all_walk (wpAny_pyIter_list hl ?_)
 refine ⟨s.heap.objs.size, [s.heap.objs.size, p], [s.heap.objs.size], its.toArray.size, _, _, fun i => (bs[i]?).getD true, rfl, Walks.list (A := X.A.in1) (I.ok.hd hc) _ p (Nat.ne_of_lt hlt) its.toArray,
  ⟨⟨_, Heap.get?_push_size _ rfl, rfl, rfl⟩, hl.push _⟩, fun i v s' Q' E' hP hQ => ?_, fun h' tk hk => ?_⟩
 ·obtain ⟨b, e, rfl⟩ := KJ rv i v (by simpa using hP)
  simp only [e, Option.getD_some] at hQ
  exact wpAny_truthy_bool hQ
 ·have e : ((List.range its.toArray.size).all fun i => (bs[i]?).getD true) = bs.all id := by
   have hln := rv.length
   rw [List.length_map] at hln
   rw [List.size_toArray, ← hln]; exact GX bs
  rw [e]
  exact ⟨.bl _, H, I.kept (Ck hk), rfl, q⟩
theorem Ym {K : PySem.W.Frag} {M : Mp} {H : Hp} : ∀ {vs : List V} {bs : List Bool}, Dts K M H vs (bs.map PyData.bool) → vs = bs.map V.bl
 | vs, [], h => by
  rw [List.map_nil] at h
  cases h
  rfl
 | vs, n :: ns, h => by
  rw [List.map_cons] at h
  cases h with
  | cons h1 h2 =>
   cases h1
   rw [Ym h2, List.map_cons]
noncomputable def Me : D1 := fun xs M Φ => ∃ bs : List Bool, xs = [.dat (.list (bs.map PyData.bool))] ∧ Φ (.dat (.bool (bs.all id))) M
noncomputable def T7 : D1 := fun xs M Φ => ∃ bs : List Bool, xs = [.dat (.list (bs.map PyData.bool))] ∧ Φ (.dat (.bool (bs.any id))) M
theorem Mc (hc : X.calm = true) : JX X (.builtin "all") Me := by
 refine ⟨_, CK hc, fun vs H xs M Φ Q r rv h k => ?_⟩
 obtain ⟨bs, rfl, q⟩ := h
 obtain ⟨v, rfl, h1⟩ := Paired.one rv
 obtain ⟨p, ys, rfl, g1, g2⟩ := Qh.lst h1
 rw [Ym g2] at g1
 exact ⟨p, bs, rfl, g1.sq, k.dat r Step.refl (Dt.bl _) q⟩
noncomputable def Px : D1 := fun xs M Φ => on1 xs fun x => onB x fun b => Φ (.dat (.int (if b = true then 1 else 0))) M
noncomputable def Zen (i j : Nat) (ta : DTA) : DTS := fun D Δ M => ta Δ M fun xs M1 => on2 xs fun x y => D.nx ((Δ.set i (some x)).set j (some y)) M1
noncomputable def Pp (x : DV) (M : Mp) (ds : List PyData) : Prop := x = .dat (.list ds) ∨ ∃ l, x = .own l ∧ M l = some (.lst ds)
theorem Pp.sq {x : DV} {M : Mp} {H : Hp} {v : V} {ds : List PyData} (h : Pp x M ds) (r : ZE X.K M H) (rv : Qh X.K M H v x) : ∃ p ys, v = .ref p ∧ SqL X.K H p ys ∧ Dts X.K M H ys ds := by
 rcases h with rfl | ⟨l, rfl, hm⟩
 ·obtain ⟨p, ys, rfl, g1, g2⟩ := Qh.lst rv
  exact ⟨p, ys, rfl, g1.sq, g2⟩
 ·cases (show v = .ref l from rv)
  obtain ⟨ws, g1, g2⟩ := r.ls l _ hm
  exact ⟨l, ws, rfl, SqL.of g1, g2⟩
noncomputable def LK : D2 := fun x y M Φ => onK x M fun ds => onK y M fun es => ds.length + es.length ≤ sizeLine ∧ Φ (.dat (.list (ds ++ es))) M
theorem Uo : OpD X (binaryOp .Add) LK := by
 refine ⟨_, Gb, fun v u H x y M Φ Q r rv ru h k => ?_⟩
 replace h := U5 h
 obtain ⟨ds, hx, h⟩ := h
 replace h := U5 h
 obtain ⟨es, hy, hz, q⟩ := h
 replace hx : Pp x M ds := hx
 replace hy : Pp y M es := hy
 obtain ⟨a, xs, rfl, h1, h2⟩ := hx.sq r rv
 obtain ⟨b, ys, rfl, h3, h4⟩ := hy.sq r ru
 exact ⟨a, b, xs, ys, rfl, rfl, h1, h3, by rw [h2.length, h4.length]; exact hz, fun p hp => k.dat (r.new hp) (Step.new hp) (Dt.VS r hp (h2.append h4)) q⟩
noncomputable def ZeP (te : DTE) (tl th : DTO) : DTE := fun Δ M Φ => te Δ M fun x M1 => tl Δ M1 fun l M2 => th Δ M2 fun u M3 => onK x M3 fun ds => Φ (.dat (.list (cutD ds l u))) M3
noncomputable def ZfC (lo : Int) (n : Nat) : List V := (List.range n).map fun (i : Nat) => V.int (lo + (i : Int))
noncomputable def OP (ta : DTA) : DTE := fun Δ M Φ => ta Δ M fun xs M1 => on2 xs fun x y => onI x fun i => onI y fun j => (InR i ∧ InR j) ∧ (j - i).toNat ≤ 16777216 ∧ Φ (.dat (.list (Xv i (j - i).toNat))) M1
noncomputable def Zek (i : Nat) (te : DTE) (f : Int → Int → Int) : DTS := fun D Δ M => onV Δ[i]? fun z => onI z fun a => te Δ M fun x M1 => onI x fun b => D.nx (Δ.set i (some (.dat (.int (f a b))))) M1
end
end DL
namespace DL
open PySem PySem.Spec PyProof.Rows L2
noncomputable def ZbE (h : Heap) (v : Value) (q : Int × Int) : Prop := ∃ a o n t u, v = .ref a ∧ h.get? a = some o ∧ o.cls = .type "tuple" ∧ o.data = .seq #[.int q.1 t, .int q.2 u] n
theorem ZbE.keep {h h' : Heap} {v : Value} {q : Int × Int} (p : ZbE h v q) (k : ∀ b o, h.get? b = some o → h'.get? b = some o) : ZbE h' v q := by
 obtain ⟨a, o, n, t, u, e, g, c, d⟩ := p
 exact ⟨a, o, n, t, u, e, k _ _ g, c, d⟩
noncomputable def ltP (p q : Int × Int) : Bool := if p.1 = q.1 then decide (p.2 < q.2) else decide (p.1 < q.1)
section
variable {prog : Program} {w : World} {A : Around} {E : Value → Shared → Prop} {s : Shared}
end
section
variable {prog : Program} {w : World} {A : Around} {R : Result → Shared → Prop} {I : Addr} {fp wr : List Addr} {n : Nat} {P : Nat → Value → Prop} {St : Nat → Heap → Prop}
noncomputable def Zee (prog : Program) (w : World) (A : Around) (h0 : Heap) (P : Nat → Value → Prop) (bt : Nat → Nat → Bool) : Prop :=
 ∀ i j x y (s : Shared) (Q : Value → Shared → Prop) (E : Value → Shared → Prop), (∀ b o, h0.get? b = some o → s.heap.get? b = some o) → P i x → P j y → Q (.bool (bt i j)) s → wpAny (model prog w) A (richCompare .Lt x y) Q E s
end
section
variable {prog : Program} {w : World} {A : Around} {E : Value → Shared → Prop} {s : Shared}
end
section
variable {X : Cx}
noncomputable def Rv (i j : Int) : Prop := 0 < j ∧ j.natAbs.log2 < 9000
theorem Fh : OpR X (binaryOp .FloorDiv) (rI Rv fun i j => .int (i / j)) := opI fun i j _ _ _ _ _ hc q => by
 have h1 : (0 : Int) < j := hc.1
 exact floordiv_int (by omega) (by rw [Int.fdiv_eq_ediv_of_nonneg i (by omega)]; exact q) (.inl (PyProof.noPylong_of_log2 hc.2))
theorem Gj : OpD X (binaryOp .FloorDiv) (δI Rv fun i j => .int (i / j)) := Zam Fh
noncomputable def prD (q : Int × Int) : PyData := .tuple [.int q.1, .int q.2]
noncomputable def Sy : D1 := fun xs M Φ => ∃ qs : List (Int × Int), xs = [.dat (.list (qs.map prD))] ∧ 0 < qs.length ∧ ∀ q ∈ qs, (∀ r ∈ qs, ltP r q = false) → Φ (.dat (prD q)) M
end
end DL
namespace DL
open PySem PySem.Spec PyProof.Rows L2
noncomputable def ZaK {α : Type} [DecidableEq α] (ks : List α) (k : α) : Bool := decide (k ∈ ks)
noncomputable def ZdY {α : Type} [DecidableEq α] (ks : List α) (k : α) : List α := if k ∈ ks then ks else ks ++ [k]
section
variable {X : Cx}
noncomputable def MZ : DTE := fun _ M Φ => ∀ p, M p = none → Φ (.own p) (ZF M p (.dct []))
noncomputable def kP (i j : Int) : List Key := [.inl i, .inl j]
noncomputable def Zce (td : DTE) (ta : DTA) (tv : DTE) : DTS := fun D Δ M => tv Δ M fun x M1 => td Δ M1 fun y M2 => ta Δ M2 fun zs M3 => onD x fun _ => onO y fun l => on2 zs fun p q => onI p fun i => onI q fun j => MJ (M3 l) fun ks => ks.length < sizeLine ∧ D.nx Δ (ZF M3 l (.dct (ZdY ks (kP i j))))
noncomputable def onP (x : DV) (P : Int → Int → Prop) : Prop := match x with | .dat (.tuple [.int i, .int j]) => P i j | _ => False
theorem Zak {x : DV} {P : Int → Int → Prop} (h : onP x P) : ∃ i j, x = .dat (.tuple [.int i, .int j]) ∧ P i j := by
 unfold onP at h
 split at h
 ·exact ⟨_, _, rfl, h⟩
 ·exact h.elim
noncomputable def Zbr : D2 := fun x y M Φ => onP x fun i j => onO y fun l => MJ (M l) fun ks => Φ (.dat (.bool (ZaK ks (kP i j)))) M
end
section
variable {prog : Program} {w : World} {A : Around} {E : Value → Shared → Prop} {s : Shared}
end
section
variable {X : Cx}
noncomputable def ZbN (te ts : DTE) : DTE := fun Δ M Φ => te Δ M fun x M1 => ts Δ M1 fun y M2 => onT x fun ds => onI y fun i => i = -1 ∧ Φ (.dat (.tuple ds.reverse)) M2
end
section
variable {prog : Program} {w : World} {A : Around} {E : Value → Shared → Prop} {s : Shared}
theorem GW {t sl : Addr} {items : Array Value} {vl vu : Value} {lo hi : Option Int} {Q : Value → Shared → Prop} (ht : IsTup s.heap t items) (hs : s.heap.IsSliceOf sl vl vu .none) (pl : IsPart vl lo) (pu : IsPart vu hi)
  (hw : HT.sIx items.size 0 lo = 0 ∧ HT.sIx items.size items.size hi = items.size) (h : Q (.ref t) s) : wpAny (model prog w) A (getItem (.ref t) (.ref sl)) Q E s := by
 obtain ⟨os, hos, hcs, hds⟩ := id hs
 have hTs : s.TypeIs (.ref sl) "slice" := ⟨os, hos, hcs⟩
 unfold getItem
 try with_reducible refine wpAny_holding ?_
 first | refine wpAny_bind (wpAny_pure ?_) | skip
 refine wpAny_bind (wpAny_sequenceKey ht.typeIs (by decide) ?_)
 refine wpAny_bind (wpAny_callSpecial?_slot (name := Str.ofString "__getitem__") ht.typeIs PyProof.Rows.slot_tuple_getitem (wpAny_call_entry PyProof.Rows.slot_tuple_getitem ht.typeIs entry_tuple_getitem ?_ (args_tuple_getitem _ _)))
 show wpAny _ _ (Builtin.Tuple.tupleItemsOf (.ref t) >>= _) _ _ s
 refine wpAny_bind (tupleItemsOf_ ht (wpAny_bind (wpAny_typeOf hTs ?_)))
 rw [if_pos (by decide)]
 refine wpAny_bind (HT.Ji hs pl pu ?_)
 rw [hw.1, hw.2, Nat.sub_zero]
 show wpAny _ _ (if ((((0 : Nat) : Int) == 0) && ((1 : Int) == 1) && (items.size == items.size)) = true then _ else _) _ _ s
 rw [if_pos (by simp)]
 unfold Builtin.Tuple.tupleIsExact
 refine wpAny_bind (wpAny_bind (wpAny_typeOf ht.typeIs (wpAny_pure ?_)))
 rw [if_pos (by decide)]
 exact wpAny_bind (wpAny_rule (wpAny_pure ⟨_, rfl, wpAny_pure h⟩))
end
section
variable {X : Cx}
noncomputable def ZcG (K : PySem.W.Frag) : V → Option Int → Option Int → Hp → VK → Prop := fun x lo hi H Q => ∃ a xs, x = .ref a ∧ SqT K H a xs ∧ (HT.sIx xs.length 0 lo = 0 ∧ HT.sIx xs.length xs.length hi = xs.length) ∧ Q (.ref a) H
theorem Nn : SlR X (ZcG X.K) := by
 intro pins s σ H x v vl vu lo hi sl Q I rx hs pl pu h
 obtain ⟨a, xs, rfl, hx, hw, q⟩ := h
 cases (show v = .ref a from rx)
 obtain ⟨its, r, ht, hz⟩ := I.tuple hx
 have hlen : its.toArray.size = xs.length := by rw [List.size_toArray]; exact r.length.symm
 exact ⟨"tuple", _, PyProof.Rows.slot_tuple_getitem.lookup, ht.typeIs, GW ht hs pl pu (by rw [hlen]; exact hw) ⟨.ref a, H, I, rfl, q⟩⟩
noncomputable def PB (te : DTE) (tl th : DTO) : DTE := fun Δ M Φ => te Δ M fun x M1 => tl Δ M1 fun l M2 => th Δ M2 fun u M3 => onT x fun ds => Φ (.dat (.tuple (cutD ds l u))) M3
theorem Z1 {e : Expr} {te : DTE} {lo hi : Option Expr} {tl th : DTO} {p2 pos : Pos} (he : DE X e te) (hl : DO X lo tl) (hu : DO X hi th) : DE X (.Subscript e (.Slice lo hi none p2) pos) (PB te tl th) := by
 obtain ⟨t1, p1, q1⟩ := he
 obtain ⟨t2, p2, q2⟩ := hl
 obtain ⟨t3, p3, q3⟩ := hu
 refine ⟨_, H0 (RR.or Nn) p1 p2 p3, fun σ H Δ M Φ Q r e h k => ?_⟩
 refine q1 σ H Δ M _ _ r e h fun v H1 x M1 r1 st rv hx => ?_
 refine q2 σ H1 Δ M1 _ _ r1 (e.step st) hx fun l H2 M2 r2 st2 hl => ?_
 refine q3 σ H2 Δ M2 _ _ r2 (e.step (st.trans st2)) hl fun u H3 M3 r3 st3 hu => ?_
 replace hu := Vr hu
 obtain ⟨ds, rfl, hu⟩ := hu
 obtain ⟨a, xs, rfl, h1, h2⟩ := (rv.step (st2.trans st3)).tup
 by_cases hw : HT.sIx xs.length 0 l = 0 ∧ HT.sIx xs.length xs.length u = xs.length
 ·refine .inr ⟨a, xs, rfl, h1.sq, hw, k.dat r3 (st.trans (st2.trans st3)) (Dt.tup h1 h2) ?_⟩
  have e : cutD ds l u = ds := by
   unfold cutD
   rw [← h2.length, hw.1, hw.2, List.drop_zero, Nat.sub_zero, h2.length, List.take_length]
  rw [e] at hu
  exact hu
 ·refine .inl ⟨a, xs, rfl, h1.sq, hw, fun p hp => ?_⟩
  exact k.dat (r3.new hp) ((st.trans (st2.trans st3)).trans (Step.new hp)) (Dt.Xp r3 hp (h2.cut l u)) hu
end
section
variable {X : Cx}
noncomputable def Zay (x : DV) (M : Mp) (Φ : DK) : Prop := match x with | .dat (.list ds) => Φ (.dat (.list ds)) M | .own l => Vg (M l) fun ds => Φ (.dat (.list ds)) (V5 M l) | _ => False
noncomputable def ZcJ (t : DTE) : DTE := fun Δ M Φ => t Δ M fun x M1 => Zay x M1 Φ
end
end DL
namespace DL
open PySem PySem.Spec PyProof.Rows L2
theorem OQ {X : Cx} {s : Stmt} {τ τ' : DTS} (h : DS X s τ) (k : ∀ D Δ M, τ' D Δ M → τ D Δ M) : DS X s τ' := by
 obtain ⟨t, p, q⟩ := h
 exact ⟨t, p, fun σ H Δ M D E a b c d => q σ H Δ M D E a b (k _ _ _ c) d⟩
noncomputable def Za8 (src : VB) : VB := fun Δ M Ψ => ∃ Ψ', src Δ M Ψ' ∧ ∀ ds M1, Ψ' ds M1 → Ψ ds M1
theorem DI.mono {X : Cx} {tg iter : Expr} {src : VB} (h : DI X tg iter src) : DI X tg iter (Za8 src) := by
 obtain ⟨wi, p, q⟩ := h
 exact ⟨wi, p, fun σ H Δ M Ψ R dr er ⟨Ψ', h1, h2⟩ k => q σ H Δ M Ψ' R dr er h1 fun J H' M' ds a b c d => k J H' M' ds a b c (h2 _ _ d)⟩
noncomputable def QA (g : DTG) (tc : DTT) (te : DTE) (Δc : DSt) (fin : List PyData → Mp → Prop) : List PyData → List PyData → Mp → Prop
 | [], acc, M => fin acc M
 | d :: ds, acc, M => g (.dat d) Δc M fun Δ2 M2 => tc Δ2 M2 fun b M3 => if b = true then te Δ2 M3 fun y M4 => onD y fun e => QA g tc te Δc fin ds (acc ++ [e]) M4 else QA g tc te Δc fin ds acc M3
theorem B0 (g : DTG) (tc : DTT) (te : DTE) (Δc : DSt) (fin : List PyData → Mp → Prop) (acc : List PyData) (M : Mp) : QA g tc te Δc fin [] acc M = fin acc M := by rw [QA]
theorem CP (g : DTG) (tc : DTT) (te : DTE) (Δc : DSt) (fin : List PyData → Mp → Prop) (d : PyData) (ds acc : List PyData) (M : Mp) : QA g tc te Δc fin (d :: ds) acc M =
  g (.dat d) Δc M fun Δ2 M2 => tc Δ2 M2 fun b M3 => if b = true then te Δ2 M3 fun y M4 => onD y fun e => QA g tc te Δc fin ds (acc ++ [e]) M4 else QA g tc te Δc fin ds acc M3 := by rw [QA]
theorem E6 {g : DTG} {tc : DTT} {te : DTE} {Δc : DSt} {fin : List PyData → Mp → Prop} {ds : List PyData} {M : Mp} (h : QA g tc te Δc fin ds [] M) : ∃ J : Nat → List PyData → Mp → Prop, J 0 [] M ∧
 (∀ i d acc M', ds[i]? = some d → J i acc M' → g (.dat d) Δc M' fun Δ2 M2 => tc Δ2 M2 fun b M3 => if b = true then te Δ2 M3 fun y M4 => onD y fun e => J (i + 1) (acc ++ [e]) M4 else J (i + 1) acc M3) ∧
 ∀ acc M', J ds.length acc M' → fin acc M' := by
 refine ⟨fun i acc M' => QA g tc te Δc fin (ds.drop i) acc M', by simpa using h, fun i d acc M' e k => ?_, fun acc M' k => ?_⟩
 ·have ed : ds.drop i = d :: ds.drop (i + 1) := by
   obtain ⟨hi, e'⟩ := List.getElem?_eq_some_iff.mp e
   rw [← e', List.drop_eq_getElem_cons hi]
  dsimp only at k
  rw [ed] at k
  exact k
 ·dsimp only at k
  rw [List.drop_length] at k
  exact k
noncomputable def Ci (ow : Bool) (src : VB) (ix : List (Option Nat)) (g : DTG) (tc : DTT) (te : DTE) : DTE := fun Δ M Φ => src Δ M fun ds M1 => ds.length ≤ sizeLine ∧ QA g tc te (WM ix Δ) (Uh ow Φ) ds [] M1
theorem Hs {ow : Bool} {src : VB} {ix : List (Option Nat)} {g : DTG} {tc : DTT} {te : DTE} (Δ : DSt) (M : Mp) (Φ : DK) (h : Ci ow src ix g tc te Δ M Φ) : Et ow (Za8 src) ix g tc te Δ M Φ :=
 ⟨_, h, fun _ _ ⟨a, b⟩ => ⟨a, E6 b⟩⟩
section
variable {X : Cx}
theorem FY (i : Nat) (ow : Bool) {x : Str} {pos' spos : Pos} (hN : X.N.Nodup) {elt tg iter : Expr} {ifs : List Expr} {scope : Scope} {pos : Pos} {src : VB} {N : List Str} {ix : List (Option Nat)} {g : DTG} {tc : DTT} {te : DTE} (ok : JV X scope N ix) (hi : DI X tg iter src)
  (hg : ∀ C ex s H, DG (Zn X scope C N ex s H) tg g) (ht : ∀ C ex s H, DTs (Zn X scope C N ex s H) ifs tc) (he : ∀ C ex s H, DE (Zn X scope C N ex s H) elt te) (hc : X.calm = true)
  (hs : ∀ x, foldedSetIterable iter X.env x = pure x := by intro _; rfl) (hin : X.N[i]? = some x := by rfl) (hx : Loc X.env.scope x := by first | exact Or.inl rfl | exact Or.inr rfl)
  (hsw : swapsWith (.ListComp elt [⟨tg, iter, ifs, 0⟩] scope pos) (some (.Name x pos')) spos.line X.env = pure true := by rfl)
  (hf : X.fn x = true ∨ X.env.scope.names.lookup x = some .local := by first | exact .inl rfl | exact .inr rfl | assumption) :
  DS X (.Assign [.Name x pos'] (.ListComp elt [⟨tg, iter, ifs, 0⟩] scope pos) spos) (Zaa (Ci ow src ix g tc te) (KS i)) :=
 OQ (M0 i ow hN ok hi.mono hg ht he hc hs hin hx hsw hf) fun D Δ M h => Hs Δ M _ h
end
noncomputable def VT (g : DTG) (tb : DTS) (D : Qf) : List PyData → DSt → Mp → Prop
 | [], Δ, M => D.nx Δ M
 | d :: ds, Δ, M => g (.dat d) Δ M fun Δ2 M2 => tb { D with nx := VT g tb D ds, ct := VT g tb D ds, bk := D.nx } Δ2 M2
theorem EH (g : DTG) (tb : DTS) (D : Qf) (Δ : DSt) (M : Mp) : VT g tb D [] Δ M = D.nx Δ M := by rw [VT]
theorem Li (g : DTG) (tb : DTS) (D : Qf) (d : PyData) (ds : List PyData) (Δ : DSt) (M : Mp) : VT g tb D (d :: ds) Δ M = g (.dat d) Δ M fun Δ2 M2 => tb { D with nx := VT g tb D ds, ct := VT g tb D ds, bk := D.nx } Δ2 M2 := by rw [VT]
theorem Gi (lo : Int) (n : Nat) : Xv lo (n + 1) = .int lo :: Xv (lo + 1) n := by
 unfold Xv
 rw [List.range_succ_eq_map, List.map_cons, List.map_map]
 congr 1
 ·simp
 ·refine List.map_congr_left fun i _ => ?_
  show PyData.int _ = PyData.int _
  congr 1
  simp
  omega
theorem RP (lo : Int) : Xv lo 0 = [] := rfl
theorem LW (lo : Int) : Xv lo 1 = [.int lo] := by rw [Gi]; rfl
theorem Ms (lo : Int) : Xv lo 2 = [.int lo, .int (lo + 1)] := by rw [Gi, LW]
theorem MB (lo : Int) : Xv lo 3 = [.int lo, .int (lo + 1), .int (lo + 1 + 1)] := by rw [Gi, Ms]
theorem TK (lo : Int) : Xv lo 4 = [.int lo, .int (lo + 1), .int (lo + 1 + 1), .int (lo + 1 + 1 + 1)] := by rw [Gi, MB]
theorem Hl {A B : DTS} {D : Qf} {Δ : DSt} {M : Mp} (h : ∀ R, R = B → Zax A R D Δ M) : Zax A B D Δ M := h B rfl
theorem N0 {l : List Int} {r : Int} (h0 : 0 ≤ r) (h1 : r < l.length) : ∃ w ∈ l, atI (l.map PyData.int) r = some (.int w) := by
 obtain ⟨d, e, hm⟩ := UC (l := l.map PyData.int) h0 (by rw [List.length_map]; exact h1)
 obtain ⟨w, hw, rfl⟩ := List.mem_map.mp hm
 exact ⟨w, hw, e⟩
end DL
namespace DL
open PySem PySem.Spec PyProof.Rows L2
theorem UG  : ZD "int" .none = false := rfl
theorem WO (b : Bool) : ZD "int" (.bool b) = true := rfl
theorem Bl (i : Int) : ZD "int" (.int i) = true := rfl
theorem G9 (z : Str) : ZD "int" (.str z) = false := rfl
theorem WQ (l : List PyData) : ZD "int" (.list l) = false := rfl
theorem Wl (l : List PyData) : ZD "int" (.tuple l) = false := rfl
theorem UN (l : List (PyData × PyData)) : ZD "int" (.dict l) = false := rfl
theorem Wt  : ZD "bool" .none = false := rfl
theorem KH (b : Bool) : ZD "bool" (.bool b) = true := rfl
theorem WU (i : Int) : ZD "bool" (.int i) = false := rfl
theorem UB (z : Str) : ZD "bool" (.str z) = false := rfl
theorem WB (l : List PyData) : ZD "bool" (.list l) = false := rfl
theorem X3 (l : List PyData) : ZD "bool" (.tuple l) = false := rfl
theorem K4 (l : List (PyData × PyData)) : ZD "bool" (.dict l) = false := rfl
theorem XO  : ZD "tuple" .none = false := rfl
theorem Kl (b : Bool) : ZD "tuple" (.bool b) = false := rfl
theorem K5 (i : Int) : ZD "tuple" (.int i) = false := rfl
theorem Wa (z : Str) : ZD "tuple" (.str z) = false := rfl
theorem Kr (l : List PyData) : ZD "tuple" (.list l) = false := rfl
theorem Y7 (l : List PyData) : ZD "tuple" (.tuple l) = true := rfl
theorem Kn (l : List (PyData × PyData)) : ZD "tuple" (.dict l) = false := rfl
theorem WI  : ZD "list" .none = false := rfl
theorem Wj (b : Bool) : ZD "list" (.bool b) = false := rfl
theorem UY (i : Int) : ZD "list" (.int i) = false := rfl
theorem Uv (z : Str) : ZD "list" (.str z) = false := rfl
theorem KG (l : List PyData) : ZD "list" (.list l) = true := rfl
theorem Xy (l : List PyData) : ZD "list" (.tuple l) = false := rfl
theorem Wk (l : List (PyData × PyData)) : ZD "list" (.dict l) = false := rfl
theorem Uz  : ZD "str" .none = false := rfl
theorem UM (b : Bool) : ZD "str" (.bool b) = false := rfl
theorem G2 (i : Int) : ZD "str" (.int i) = false := rfl
theorem G7 (z : Str) : ZD "str" (.str z) = true := rfl
theorem Ub (l : List PyData) : ZD "str" (.list l) = false := rfl
theorem K1 (l : List PyData) : ZD "str" (.tuple l) = false := rfl
theorem Uq (l : List (PyData × PyData)) : ZD "str" (.dict l) = false := rfl
theorem K6  : ZD "dict" .none = false := rfl
theorem KP (b : Bool) : ZD "dict" (.bool b) = false := rfl
theorem UL (i : Int) : ZD "dict" (.int i) = false := rfl
theorem WS (z : Str) : ZD "dict" (.str z) = false := rfl
theorem Kz (l : List PyData) : ZD "dict" (.list l) = false := rfl
theorem Kj (l : List PyData) : ZD "dict" (.tuple l) = false := rfl
theorem Wb (l : List (PyData × PyData)) : ZD "dict" (.dict l) = true := rfl
theorem Za1 (i j : Int) : (PyData.int i).eqv (.int j) = decide (i = j) := by
 simp only [PyData.eqv]
 first | rfl | exact Bool.beq_eq_decide_eq _ _ | (rw [Bool.eq_iff_iff]; simp)
theorem ZbV (x y : Str) : (PyData.str x).eqv (.str y) = decide (x = y) := by
 simp only [PyData.eqv]
 first | rfl | (rw [Bool.eq_iff_iff]; simp)
theorem Zbd (x y : Bool) : (PyData.bool x).eqv (.bool y) = (x == y) := by
 simp only [PyData.eqv]
theorem Zb9 : PyData.none.eqv .none = true := by simp only [PyData.eqv]
theorem ZcE (x y : List PyData) : (PyData.tuple x).eqv (.tuple y) = PyData.eqvAll x y := by simp only [PyData.eqv]
theorem Zb1 (x y : List PyData) : (PyData.list x).eqv (.list y) = PyData.eqvAll x y := by simp only [PyData.eqv]
theorem NA : PyData.eqvAll [] [] = true := by simp only [PyData.eqvAll]
theorem Lo (x y : PyData) (xs ys : List PyData) : PyData.eqvAll (x :: xs) (y :: ys) = (x.eqv y && PyData.eqvAll xs ys) := by simp only [PyData.eqvAll]
theorem Sx (x : PyData) (xs : List PyData) : PyData.eqvAll (x :: xs) [] = false := by simp only [PyData.eqvAll]
theorem P9 (x : PyData) (xs : List PyData) : PyData.eqvAll [] (x :: xs) = false := by simp only [PyData.eqvAll]
end DL
namespace DL
open PySem PySem.Spec PyProof.Rows L2
section
variable {X : Cx} {pos : Pos}
noncomputable def P1 (tc : DTT) (tb : DTS) : DTS := fun D Δ M => ∃ J : Nat → DSt → Mp → Prop, (∃ m, J m Δ M) ∧ ∀ n Δ M, J n Δ M → tc Δ M fun b M1 =>
 if b = true then tb { D with nx := fun Δ' M' => ∃ m, m < n ∧ J m Δ' M', ct := fun Δ' M' => ∃ m, m < n ∧ J m Δ' M', bk := D.nx } Δ M1 else D.nx Δ M1
noncomputable def Zft (to : DTE) : DTE := fun Δ M Φ => to Δ M fun x M1 => onO x fun l => ∃ ds d, M1 l = some (.lst (ds ++ [d])) ∧ Φ (.dat d) (ZF M1 l (.lst ds))
noncomputable def isNone : PyData → Bool
 | .none => true
 | _ => false
noncomputable def onN (x : DV) (P : Prop) : Prop := match x with | .dat .none => P | _ => False
noncomputable def Zb4 (b : Bool) : D2 := fun x y M Φ => onD x fun d => onN y <| Φ (.dat (.bool (isNone d != b))) M
theorem isNone_none : isNone .none = true := rfl
theorem Us (b : Bool) : isNone (.bool b) = false := rfl
theorem GY (b : Int) : isNone (.int b) = false := rfl
theorem G1 (b : Str) : isNone (.str b) = false := rfl
theorem UO (b : List PyData) : isNone (.list b) = false := rfl
theorem K7 (b : List PyData) : isNone (.tuple b) = false := rfl
theorem Ur (b : List (PyData × PyData)) : isNone (.dict b) = false := rfl
noncomputable def Zgg (c : Bool) : PyData → Bool
 | .bool b => b == c
 | _ => false
noncomputable def NU : D2 := fun x y M Φ => onD x fun d => onW y fun ds => okIn d ds = true ∧ Φ (.dat (.bool (!(ds.any fun e => PyData.eqv e d)))) M
noncomputable def Ly : D2 := fun x y M Φ => onP x fun i j => onO y fun l => MJ (M l) fun ks => Φ (.dat (.bool (!ZaK ks (kP i j)))) M
end
section
variable {prog : Program} {w : World} {A : Around} {E : Value → Shared → Prop} {s : Shared}
end
end DL
namespace DL
open PySem PySem.Spec PyProof.Rows L2
theorem Fw (x : DV) (P : DV → Prop) : onV (some (some x)) P = P x := propext Iff.rfl
theorem Hc (i : Int) (P : Int → Prop) : onI (.dat (.int i)) P = P i := propext Iff.rfl
theorem Lk (i : Bool) (P : Bool → Prop) : onB (.dat (.bool i)) P = P i := propext Iff.rfl
theorem EE (i : Str) (P : Str → Prop) : onS (.dat (.str i)) P = P i := propext Iff.rfl
theorem FF (i : List PyData) (P : List PyData → Prop) : onT (.dat (.tuple i)) P = P i := propext Iff.rfl
theorem LF (i : List PyData) (P : List PyData → Prop) : onL (.dat (.list i)) P = P i := propext Iff.rfl
theorem FZ (i : PyData) (P : PyData → Prop) : onD (.dat i) P = P i := propext Iff.rfl
theorem Hd (i : Addr) (P : Addr → Prop) : onO (.own i) P = P i := propext Iff.rfl
theorem D9 (ds : List PyData) (P : List PyData → Prop) : Vg (some (.lst ds)) P = P ds := propext Iff.rfl
theorem C9 (ks : List (List Key)) (P : List (List Key) → Prop) : MJ (some (.dct ks)) P = P ks := propext Iff.rfl
theorem NI (ds : List PyData) (M : Mp) (P : List PyData → Prop) : onQ (.dat (.tuple ds)) M P = P ds := propext Iff.rfl
theorem OL (ds : List PyData) (M : Mp) (P : List PyData → Prop) : onQ (.dat (.list ds)) M P = P ds := propext Iff.rfl
theorem Nf (l : Addr) (M : Mp) (P : List PyData → Prop) : onQ (.own l) M P = Vg (M l) P := propext Iff.rfl
theorem Pa (ds : List PyData) (M : Mp) (P : List PyData → Prop) : onK (.dat (.list ds)) M P = P ds := propext Iff.rfl
theorem OI (l : Addr) (M : Mp) (P : List PyData → Prop) : onK (.own l) M P = Vg (M l) P := propext Iff.rfl
theorem Hi (x : DV) (P : DV → Prop) : on1 [x] P = P x := propext Iff.rfl
theorem HK (x y : DV) (P : DV → DV → Prop) : on2 [x, y] P = P x y := propext Iff.rfl
theorem EG (x y z : DV) (P : DV → DV → DV → Prop) : on3 [x, y, z] P = P x y z := propext Iff.rfl
theorem FQ (x0 x1 x2 x3 : DV) (P : DV → DV → DV → DV → Prop) : on4 [x0, x1, x2, x3] P = P x0 x1 x2 x3 := propext Iff.rfl
theorem Hy (x0 x1 x2 x3 x4 : DV) (P : DV → DV → DV → DV → DV → Prop) : on5 [x0, x1, x2, x3, x4] P = P x0 x1 x2 x3 x4 := propext Iff.rfl
theorem Hh (x0 x1 x2 x3 x4 x5 : DV) (P : DV → DV → DV → DV → DV → DV → Prop) : on6 [x0, x1, x2, x3, x4, x5] P = P x0 x1 x2 x3 x4 x5 := propext Iff.rfl
theorem Hr (P : List PyData → Prop) : Yy [] P = P [] := propext Iff.rfl
theorem Lh (a0 : PyData) (P : List PyData → Prop) : Yy [.dat a0] P = P [a0] := propext Iff.rfl
theorem Lu (a0 a1 : PyData) (P : List PyData → Prop) : Yy [.dat a0, .dat a1] P = P [a0, a1] := propext Iff.rfl
theorem EW (a0 a1 a2 : PyData) (P : List PyData → Prop) : Yy [.dat a0, .dat a1, .dat a2] P = P [a0, a1, a2] := propext Iff.rfl
theorem EJ (a0 a1 a2 a3 : PyData) (P : List PyData → Prop) : Yy [.dat a0, .dat a1, .dat a2, .dat a3] P = P [a0, a1, a2, a3] := propext Iff.rfl
theorem HZ (a0 a1 a2 a3 a4 : PyData) (P : List PyData → Prop) : Yy [.dat a0, .dat a1, .dat a2, .dat a3, .dat a4] P = P [a0, a1, a2, a3, a4] := propext Iff.rfl
theorem HJ (a0 a1 a2 a3 a4 a5 : PyData) (P : List PyData → Prop) : Yy [.dat a0, .dat a1, .dat a2, .dat a3, .dat a4, .dat a5] P = P [a0, a1, a2, a3, a4, a5] := propext Iff.rfl
theorem Ll (a0 a1 a2 a3 a4 a5 a6 : PyData) (P : List PyData → Prop) : Yy [.dat a0, .dat a1, .dat a2, .dat a3, .dat a4, .dat a5, .dat a6] P = P [a0, a1, a2, a3, a4, a5, a6] := propext Iff.rfl
theorem He (a0 a1 a2 a3 a4 a5 a6 a7 : PyData) (P : List PyData → Prop) : Yy [.dat a0, .dat a1, .dat a2, .dat a3, .dat a4, .dat a5, .dat a6, .dat a7] P = P [a0, a1, a2, a3, a4, a5, a6, a7] := propext Iff.rfl
theorem FI (a0 a1 a2 a3 a4 a5 a6 a7 a8 : PyData) (P : List PyData → Prop) : Yy [.dat a0, .dat a1, .dat a2, .dat a3, .dat a4, .dat a5, .dat a6, .dat a7, .dat a8] P = P [a0, a1, a2, a3, a4, a5, a6, a7, a8] := propext Iff.rfl
theorem Cr (a0 a1 a2 a3 a4 a5 a6 a7 a8 a9 : PyData) (P : List PyData → Prop) : Yy [.dat a0, .dat a1, .dat a2, .dat a3, .dat a4, .dat a5, .dat a6, .dat a7, .dat a8, .dat a9] P = P [a0, a1, a2, a3, a4, a5, a6, a7, a8, a9] := propext Iff.rfl
theorem Ek (a0 a1 a2 a3 a4 a5 a6 a7 a8 a9 a10 : PyData) (P : List PyData → Prop) : Yy [.dat a0, .dat a1, .dat a2, .dat a3, .dat a4, .dat a5, .dat a6, .dat a7, .dat a8, .dat a9, .dat a10] P = P [a0, a1, a2, a3, a4, a5, a6, a7, a8, a9, a10] := propext Iff.rfl
theorem Ej (a0 a1 a2 a3 a4 a5 a6 a7 a8 a9 a10 a11 : PyData) (P : List PyData → Prop) : Yy [.dat a0, .dat a1, .dat a2, .dat a3, .dat a4, .dat a5, .dat a6, .dat a7, .dat a8, .dat a9, .dat a10, .dat a11] P = P [a0, a1, a2, a3, a4, a5, a6, a7, a8, a9, a10, a11] := propext Iff.rfl
theorem Cq (a0 a1 a2 a3 a4 a5 a6 a7 a8 a9 a10 a11 a12 : PyData) (P : List PyData → Prop) : Yy [.dat a0, .dat a1, .dat a2, .dat a3, .dat a4, .dat a5, .dat a6, .dat a7, .dat a8, .dat a9, .dat a10, .dat a11, .dat a12] P = P [a0, a1, a2, a3, a4, a5, a6, a7, a8, a9, a10, a11, a12] := propext Iff.rfl
theorem DJ (a0 a1 a2 a3 a4 a5 a6 a7 a8 a9 a10 a11 a12 a13 : PyData) (P : List PyData → Prop) : Yy [.dat a0, .dat a1, .dat a2, .dat a3, .dat a4, .dat a5, .dat a6, .dat a7, .dat a8, .dat a9, .dat a10, .dat a11, .dat a12, .dat a13] P = P [a0, a1, a2, a3, a4, a5, a6, a7, a8, a9, a10, a11, a12, a13] := propext Iff.rfl
theorem RJ (i : Nat) (Δ : DSt) (M : Mp) (Φ : DK) : Zbg i Δ M Φ = (onV Δ[i]? fun x => Φ x M) := propext Iff.rfl
theorem ZeH (d : PyData) (z0 : DSt) (M : Mp) (Φ : DK) : dC d z0 M Φ = (Φ (.dat d) M) := propext Iff.rfl
theorem Zco (n : String) (z0 : DSt) (M : Mp) (Φ : DK) : dTy n z0 M Φ = (Φ (.ty n) M) := propext Iff.rfl
theorem Zbp (δ : D2) (ta tb : DTE) (Δ : DSt) (M : Mp) (Φ : DK) : dOp δ ta tb Δ M Φ = (ta Δ M fun x M1 => tb Δ M1 fun y M2 => δ x y M2 Φ) := propext Iff.rfl
theorem ZeM (t : DTE) (Δ : DSt) (M : Mp) (Φ : Bool → Mp → Prop) : dB t Δ M Φ = (t Δ M fun x M1 => onB x fun c => Φ c M1) := propext Iff.rfl
theorem La (δ δ' : D2) (ta tb tc : DTE) (Δ : DSt) (M : Mp) (Φ : DK) : GI δ δ' ta tb tc Δ M Φ = (ta Δ M fun x M1 => tb Δ M1 fun y M2 => δ x y M2 fun z M3 => onB z fun k => (if k = true then tc Δ M3 fun w' M4 => δ' y w' M4 Φ else Φ (.dat (.bool false)) M3)) := propext Iff.rfl
theorem S2 (t u : DTT) (Δ : DSt) (M : Mp) (Φ : Bool → Mp → Prop) : Zd5 t u Δ M Φ = (t Δ M fun c M1 => if c = true then u Δ M1 Φ else Φ false M1) := propext Iff.rfl
theorem Zch (t u : DTT) (Δ : DSt) (M : Mp) (Φ : Bool → Mp → Prop) : dOr t u Δ M Φ = (t Δ M fun c M1 => if c = true then Φ true M1 else u Δ M1 Φ) := propext Iff.rfl
theorem Zaj (t : DTT) (Δ : DSt) (M : Mp) (Φ : Bool → Mp → Prop) : Zda t Δ M Φ = (t Δ M fun c M1 => Φ (!c) M1) := propext Iff.rfl
theorem Oh (ta tb : DTE) (Δ : DSt) (M : Mp) (Φ : DK) : Tw ta tb Δ M Φ = (ta Δ M fun x M1 => onB x fun c => if c = true then tb Δ M1 Φ else Φ (.dat (.bool false)) M1) := propext Iff.rfl
theorem Zap (ta tb : DTE) (Δ : DSt) (M : Mp) (Φ : DK) : Zed ta tb Δ M Φ = (ta Δ M fun x M1 => onB x fun c => if c = true then Φ (.dat (.bool true)) M1 else tb Δ M1 Φ) := propext Iff.rfl
theorem NN (ta : DTE) (Δ : DSt) (M : Mp) (Φ : DK) : T6 ta Δ M Φ = (ta Δ M fun x M1 => onB x fun c => Φ (.dat (.bool (!c))) M1) := propext Iff.rfl
theorem Zby (t : DTT) (ta tb : DTE) (Δ : DSt) (M : Mp) (Φ : DK) : dIf t ta tb Δ M Φ = (t Δ M fun c M1 => if c = true then ta Δ M1 Φ else tb Δ M1 Φ) := propext Iff.rfl
theorem Ts (g : Int → Int) (ta : DTE) (Δ : DSt) (M : Mp) (Φ : DK) : ZdQ g ta Δ M Φ = (ta Δ M fun x M1 => onI x fun i => Φ (.dat (.int (g i))) M1) := propext Iff.rfl
theorem ZcM (C : Int → Int → Prop) (g : Int → Int → PyData) (x : DV) (y : DV) (M : Mp) (Φ : DK) : δI C g x y M Φ = (onI x fun i => onI y fun j => C i j ∧ Φ (.dat (g i j)) M) := propext Iff.rfl
theorem Rf (g : Int → Int → PyData) (x : DV) (y : DV) (M : Mp) (Φ : DK) : δI0 g x y M Φ = (onI x fun i => onI y fun j => Φ (.dat (g i j)) M) := propext Iff.rfl
theorem Zbz (g : Bool → Bool → Bool) (x : DV) (y : DV) (M : Mp) (Φ : DK) : δB g x y M Φ = (onB x fun c => onB y fun d => Φ (.dat (.bool (g c d))) M) := propext Iff.rfl
theorem HC  (x : DV) (y : DV) (M : Mp) (Φ : DK) : Rg x y M Φ = (onT x fun ds => onT y fun es => ds ≠ [] ∧ ds.length + es.length ≤ sizeLine ∧ Φ (.dat (.tuple (ds ++ es))) M) := propext Iff.rfl
theorem Ft  (x : DV) (y : DV) (M : Mp) (Φ : DK) : SK x y M Φ = (onL x fun ds => onL y fun es => ds.length + es.length ≤ sizeLine ∧ Φ (.dat (.list (ds ++ es))) M) := propext Iff.rfl
theorem BP  (x : DV) (y : DV) (M : Mp) (Φ : DK) : Nh x y M Φ = (onL x fun ds => onL y fun es => ds.length + es.length ≤ sizeLine ∧ ∀ p, M p = none → Φ (.own p) (ZF M p (.lst (ds ++ es)))) := propext Iff.rfl
theorem Zac  (z0 : DSt) (M : Mp) (Φ : List DV → Mp → Prop) : Zdt z0 M Φ = (Φ [] M) := propext Iff.rfl
theorem Ow (ta : DTE) (tr : DTA) (Δ : DSt) (M : Mp) (Φ : List DV → Mp → Prop) : SI ta tr Δ M Φ = (ta Δ M fun x M1 => tr Δ M1 fun xs M2 => Φ (x :: xs) M2) := propext Iff.rfl
theorem SQ (t : DTA) (Δ : DSt) (M : Mp) (Φ : DK) : ZcX t Δ M Φ = (t Δ M fun xs M1 => Yy xs fun ds => Φ (.dat (.tuple ds)) M1) := propext Iff.rfl
theorem RQ (t : DTA) (Δ : DSt) (M : Mp) (Φ : DK) : Zc7 t Δ M Φ = (t Δ M fun xs M1 => Yy xs fun ds => Φ (.dat (.list ds)) M1) := propext Iff.rfl
theorem Oo (t : DTA) (Δ : DSt) (M : Mp) (Φ : DK) : SW t Δ M Φ = (t Δ M fun xs M1 => Yy xs fun ds => ∀ p, M1 p = none → Φ (.own p) (ZF M1 p (.lst ds))) := propext Iff.rfl
theorem Si (t : DTE) (Δ : DSt) (M : Mp) (Φ : DK) : ZcU t Δ M Φ = (t Δ M fun x M1 => onO x fun l => Vg (M1 l) fun ds => Φ (.dat (.list ds)) (V5 M1 l)) := propext Iff.rfl
theorem Lg (a : PyData) (l : List PyData) (P : PyData → Prop) : Km (a :: l) 0 P = P a := propext Iff.rfl
theorem EU (a b : PyData) (l : List PyData) (P : PyData → Prop) : Km (a :: b :: l) 1 P = P b := propext Iff.rfl
theorem Lb (a b c : PyData) (l : List PyData) (P : PyData → Prop) : Km (a :: b :: c :: l) 2 P = P c := propext Iff.rfl
theorem Ln (a b c d : PyData) (l : List PyData) (P : PyData → Prop) : Km (a :: b :: c :: d :: l) 3 P = P d := propext Iff.rfl
theorem HR (a b c d e : PyData) (l : List PyData) (P : PyData → Prop) : Km (a :: b :: c :: d :: e :: l) 4 P = P e := propext Iff.rfl
theorem FC (a b c d e f : PyData) (l : List PyData) (P : PyData → Prop) : Km (a :: b :: c :: d :: e :: f :: l) 5 P = P f := propext Iff.rfl
theorem FT (a b c d e f g : PyData) (l : List PyData) (P : PyData → Prop) : Km (a :: b :: c :: d :: e :: f :: g :: l) 6 P = P g := propext Iff.rfl
theorem HX (a b c d e f g h : PyData) (l : List PyData) (P : PyData → Prop) : Km (a :: b :: c :: d :: e :: f :: g :: h :: l) 7 P = P h := propext Iff.rfl
theorem Sv  (x : DV) (y : DV) (M : Mp) (Φ : DK) : δIx x y M Φ = (onQ x M fun ds => onI y fun i => Km ds i fun d => Φ (.dat d) M) := propext Iff.rfl
theorem Zcs (δ : D1) (t : DTA) (Δ : DSt) (M : Mp) (Φ : DK) : dCB δ t Δ M Φ = (t Δ M fun xs M1 => δ xs M1 Φ) := propext Iff.rfl
theorem MK  (xs : List DV) (M : Mp) (Φ : DK) : SH xs M Φ = (on1 xs fun x => onQ x M fun ds => Φ (.dat (.int ds.length)) M) := propext Iff.rfl
theorem Fi  (xs : List DV) (M : Mp) (Φ : DK) : LN xs M Φ = (on1 xs fun x => onS x fun z => z.length ≤ sizeLine ∧ Φ (.dat (.int z.length)) M) := propext Iff.rfl
theorem Hn  (xs : List DV) (M : Mp) (Φ : DK) : Mz xs M Φ = (on1 xs fun x => onI x fun i => i.natAbs.log2 < 1920 ∧ Φ (.dat (.str (toString i))) M) := propext Iff.rfl
theorem OB  (xs : List DV) (M : Mp) (Φ : DK) : R1 xs M Φ = (on1 xs fun x => onI x fun i => Φ (.dat (.int (if i < 0 then -i else i))) M) := propext Iff.rfl
theorem Sf (g : Int → Int → Int) (xs : List DV) (M : Mp) (Φ : DK) : δ2I g xs M Φ = (on2 xs fun x y => onI x fun i => onI y fun j => Φ (.dat (.int (g i j))) M) := propext Iff.rfl
theorem Bc  (xs : List DV) (M : Mp) (Φ : DK) : U8 xs M Φ = (on1 xs fun x => onQ x M fun ds => Φ (.dat (.list ds)) M) := propext Iff.rfl
theorem E8  (xs : List DV) (M : Mp) (Φ : DK) : Zao xs M Φ = (on1 xs fun x => onD x fun d => Shw d ∧ Φ (.dat (.str d.shown)) M) := propext Iff.rfl
theorem GS (T : String) (d : PyData) (t : String) (M : Mp) (Φ : DK) : MN T [.dat d, .ty t] M Φ = (t = T ∧ Φ (.dat (.bool (ZD T d))) M) := propext Iff.rfl
theorem Fv (i j : Int) (P : Bool → Prop) : eqD (.int i) (.int j) P = P (decide (i = j)) := propext Iff.rfl
theorem Lr (i j : Str) (P : Bool → Prop) : eqD (.str i) (.str j) P = P (decide (i = j)) := propext Iff.rfl
theorem FE (i j : Bool) (P : Bool → Prop) : eqD (.bool i) (.bool j) P = P (i == j) := propext Iff.rfl
theorem PQ  (x : DV) (y : DV) (M : Mp) (Φ : DK) : δEq x y M Φ = (onD x fun d => onD y fun e => eqD d e fun b => Φ (.dat (.bool b)) M) := propext Iff.rfl
theorem PY  (x : DV) (y : DV) (M : Mp) (Φ : DK) : δNe x y M Φ = (onD x fun d => onD y fun e => eqD d e fun b => Φ (.dat (.bool (!b))) M) := propext Iff.rfl
theorem O6  (x : DV) (y : DV) (M : Mp) (Φ : DK) : SY x y M Φ = (onS x fun s => onS y fun t => Φ (.dat (.bool (!decide (s = t)))) M) := propext Iff.rfl
theorem O9  (x : DV) (y : DV) (M : Mp) (Φ : DK) : Za2 x y M Φ = (onS x fun s => onS y fun t => Φ (.dat (.bool (decide (s = t)))) M) := propext Iff.rfl
theorem CV  (z0 : DSt) (M : Mp) (Φ : Option Int → Mp → Prop) : Ca z0 M Φ = (Φ none M) := propext Iff.rfl
theorem Ob (t : DTE) (Δ : DSt) (M : Mp) (Φ : Option Int → Mp → Prop) : S4 t Δ M Φ = (t Δ M fun x M1 => onI x fun i => Φ (some i) M1) := propext Iff.rfl
theorem PJ (te : DTE) (tl th : DTO) (Δ : DSt) (M : Mp) (Φ : DK) : ZeJ te tl th Δ M Φ = (te Δ M fun x M1 => tl Δ M1 fun l M2 => th Δ M2 fun u M3 => onT x fun ds => ¬ (HT.sIx ds.length 0 l = 0 ∧ HT.sIx ds.length ds.length u = ds.length) ∧ Φ (.dat (.tuple (cutD ds l u))) M3) := propext Iff.rfl
theorem Pc  (D : Qf) (Δ : DSt) (M : Mp) : Zaq D Δ M = (D.nx Δ M) := propext Iff.rfl
theorem RB (t u : DTS) (D : Qf) (Δ : DSt) (M : Mp) : Zax t u D Δ M = (t { D with nx := u D } Δ M) := propext Iff.rfl
theorem EC  (D : Qf) (Δ : DSt) (M : Mp) : TF D Δ M = (D.bk Δ M) := propext Iff.rfl
theorem Pg  (D : Qf) (Δ : DSt) (M : Mp) : ZcP D Δ M = (D.ct Δ M) := propext Iff.rfl
theorem MM (te : DTE) (D : Qf) (Δ : DSt) (M : Mp) : Rn te D Δ M = (te Δ M fun _ M1 => D.nx Δ M1) := propext Iff.rfl
theorem Py (te : DTE) (D : Qf) (Δ : DSt) (M : Mp) : ZdS te D Δ M = (te Δ M D.rt) := propext Iff.rfl
theorem MU  (D : Qf) (z1 : DSt) (M : Mp) : Zcr D z1 M = (D.rt (.dat .none) M) := propext Iff.rfl
theorem SE (c : DTT) (t u : DTS) (D : Qf) (Δ : DSt) (M : Mp) : Zdh c t u D Δ M = (c Δ M fun b M1 => if b = true then t D Δ M1 else u D Δ M1) := propext Iff.rfl
theorem JB (i : Nat) (x : DV) (Δ : DSt) (M : Mp) (Φ : DSt → Mp → Prop) : KS i x Δ M Φ = (Φ (Δ.set i (some x)) M) := propext Iff.rfl
theorem Bu (Δ : DSt) (M : Mp) (Φ : DSt → Mp → Prop) : Zad [] Δ M Φ = Φ Δ M := propext Iff.rfl
theorem W2 (t : DTG) (u : Ew) (x : DV) (r : List DV) (Δ : DSt) (M : Mp) (Φ : DSt → Mp → Prop) : Mn t u (x :: r) Δ M Φ = t x Δ M fun Δ' M' => u r Δ' M' Φ := propext Iff.rfl
theorem HB (P : List DV → Prop) : LJ 0 [] P = P [] := propext Iff.rfl
theorem Fz (n : Nat) (d : PyData) (r : List PyData) (P : List DV → Prop) : LJ (n + 1) (d :: r) P = LJ n r fun xs => P (.dat d :: xs) := propext Iff.rfl
theorem OW (n : Nat) (t : Ew) (x : DV) (Δ : DSt) (M : Mp) (Φ : DSt → Mp → Prop) : S0 n t x Δ M Φ = (onT x fun ds => LJ n ds fun xs => t xs Δ M Φ) := propext Iff.rfl
theorem Nb (to ti : DTE) (x : DV) (Δ : DSt) (M : Mp) (Φ : DSt → Mp → Prop) : Rp to ti x Δ M Φ = (to Δ M fun o M1 => ti Δ M1 fun i M2 => onO o fun l => onI i fun k => onD x fun d => Vg (M2 l) fun ds => ∃ j, ixN ds.length k = some j ∧ Φ Δ (ZF M2 l (.lst (ds.set j d)))) := propext Iff.rfl
theorem TB (te : DTE) (g : DTG) (D : Qf) (Δ : DSt) (M : Mp) : Zaa te g D Δ M = (te Δ M fun x M1 => g x Δ M1 D.nx) := propext Iff.rfl
theorem Co (to te : DTE) (Δ : DSt) (M : Mp) (Φ : DK) : Eo to te Δ M Φ = (to Δ M fun x M1 => onO x fun l => Vg (M1 l) fun _ => te Δ M1 fun y M2 => onD y fun d => Vg (M2 l) fun ds => ds.length < sizeLine ∧ Φ (.dat .none) (ZF M2 l (.lst (ds ++ [d])))) := propext Iff.rfl
theorem Nl (te : DTE) (g : DTG) (tb : DTS) (D : Qf) (Δ : DSt) (M : Mp) : SR te g tb D Δ M = (te Δ M fun x M1 => onL x fun ds => CB g tb D ds Δ M1) := propext Iff.rfl
theorem N7 (te : DTE) (g : DTG) (tb : DTS) (D : Qf) (Δ : DSt) (M : Mp) : Zcq te g tb D Δ M = (te Δ M fun x M1 => onT x fun ds => CB g tb D ds Δ M1) := propext Iff.rfl
theorem HU (ta : DTA) (g : DTG) (tb : DTS) (D : Qf) (Δ : DSt) (M : Mp) : Ml ta g tb D Δ M = (ta Δ M fun xs M1 => on1 xs fun x => onI x fun j => InR j ∧ K9 g tb D 0 j.toNat Δ M1) := propext Iff.rfl
theorem Lw (ta : DTA) (g : DTG) (tb : DTS) (D : Qf) (Δ : DSt) (M : Mp) : S9 ta g tb D Δ M = (ta Δ M fun xs M1 => on2 xs fun x y => onI x fun i => onI y fun j => (InR i ∧ InR j) ∧ K9 g tb D i (j - i).toNat Δ M1) := propext Iff.rfl
theorem OT (S : DSp) (t : DTA) (Δ : DSt) (M : Mp) (Φ : DK) : SS S t Δ M Φ = (t Δ M fun xs M1 => S xs M1 Φ) := propext Iff.rfl
theorem Hb  (z0 : DSt) (M : Mp) (Φ : DK) : MC z0 M Φ = (Φ (.dat (.dict [])) M) := propext Iff.rfl
theorem Ct (i : Int) (P : Key → Prop) : VU (.dat (.int i)) P = P (.inl i) := propext Iff.rfl
theorem CY (i : Str) (P : Key → Prop) : VU (.dat (.str i)) P = P (.inr i) := propext Iff.rfl
theorem EL (tk tv : DTE) (Δ : DSt) (M : Mp) (Φ : DK) : MF tk tv Δ M Φ = (tk Δ M fun x M1 => tv Δ M1 fun y M2 => VU x fun k => onD y fun d => Φ (.dat (.dict [(kD k, d)])) M2) := propext Iff.rfl
theorem ET (tk tv tk' tv' : DTE) (Δ : DSt) (M : Mp) (Φ : DK) : Sn tk tv tk' tv' Δ M Φ = (tk Δ M fun x M1 => tv Δ M1 fun y M2 => tk' Δ M2 fun x' M3 => tv' Δ M3 fun y' M4 => VU x fun k => onD y fun d => VU x' fun k' => onD y' fun d' => k ≠ k' ∧ Φ (.dat (.dict [(kD k, d), (kD k', d')])) M4) := propext Iff.rfl
theorem CO (tk tv : DTE) (Δ : DSt) (M : Mp) (Φ : DK) : B1 tk tv Δ M Φ = (tk Δ M fun x M1 => tv Δ M1 fun y M2 => onT x fun ds => SM ds fun ks => onD y fun d => Φ (.dat (.dict [(.tuple (ks.map kD), d)])) M2) := propext Iff.rfl
theorem Zbh (f : PyData → Bool) (xs : List DV) (M : Mp) (Φ : DK) : sp1 f xs M Φ = (∃ d, xs = [.dat d] ∧ Φ (.dat (.bool (f d))) M) := propext Iff.rfl
theorem P5 (te : DTE) (Δ : DSt) (M : Mp) (Ψ : List PyData → Mp → Prop) : ZeF te Δ M Ψ = (te Δ M fun x M1 => onL x fun ds => Ψ ds M1) := propext Iff.rfl
theorem T4 (te : DTE) (Δ : DSt) (M : Mp) (Ψ : List PyData → Mp → Prop) : Zde te Δ M Ψ = (te Δ M fun x M1 => onT x fun ds => Ψ ds M1) := propext Iff.rfl
theorem NG (ta : DTA) (Δ : DSt) (M : Mp) (Ψ : List PyData → Mp → Prop) : TC ta Δ M Ψ = (ta Δ M fun xs M1 => on1 xs fun x => onI x fun j => InR j ∧ Ψ (Xv 0 j.toNat) M1) := propext Iff.rfl
theorem Nt (ta : DTA) (Δ : DSt) (M : Mp) (Ψ : List PyData → Mp → Prop) : TJ ta Δ M Ψ = (ta Δ M fun xs M1 => on2 xs fun x y => onI x fun i => onI y fun j => (InR i ∧ InR j) ∧ Ψ (Xv i (j - i).toNat) M1) := propext Iff.rfl
theorem Hf (Φ : DK) (acc : List PyData) (M : Mp) : Uh true Φ acc M = ∀ p, M p = none → Φ (.own p) (ZF M p (.lst acc)) := propext Iff.rfl
theorem Fs (Φ : DK) (acc : List PyData) (M : Mp) : Uh false Φ acc M = Φ (.dat (.list acc)) M := propext Iff.rfl
theorem NQ (ow : Bool) (src : VB) (ix : List (Option Nat)) (g : DTG) (tc : DTT) (te : DTE) (Δ : DSt) (M : Mp) (Φ : DK) : Et ow src ix g tc te Δ M Φ = (src Δ M fun ds M1 => ds.length ≤ sizeLine ∧ ∃ J : Nat → List PyData → Mp → Prop, J 0 [] M1 ∧ (∀ i d acc M', ds[i]? = some d → J i acc M' → g (.dat d) (WM ix Δ) M' fun Δ2 M2 => tc Δ2 M2 fun b M3 => if b = true then te Δ2 M3 fun y M4 => onD y fun e => J (i + 1) (acc ++ [e]) M4 else J (i + 1) acc M3) ∧ ∀ acc M', J ds.length acc M' → Uh ow Φ acc M') := propext Iff.rfl
theorem SV  (z0 : DSt) (M : Mp) (Φ : Bool → Mp → Prop) : Zc9 z0 M Φ = (Φ true M) := propext Iff.rfl
theorem Bz  (xs : List DV) (M : Mp) (Φ : DK) : Nv xs M Φ = (∃ ns : List Int, VR xs M ns ∧ ns.length < 64 ∧ ∀ ns' : List Int, ns'.Perm ns → ns'.Pairwise (· ≤ ·) → Φ (.dat (.list (ns'.map PyData.int))) M) := propext Iff.rfl
theorem EO  (xs : List DV) (M : Mp) (Φ : DK) : Tj xs M Φ = (∃ ns : List Int, VR xs M ns ∧ 0 < ns.length ∧ ∀ m ∈ ns, (∀ a ∈ ns, m ≤ a) → Φ (.dat (.int m)) M) := propext Iff.rfl
theorem FL  (xs : List DV) (M : Mp) (Φ : DK) : PU xs M Φ = (∃ ns : List Int, VR xs M ns ∧ 0 < ns.length ∧ ∀ m ∈ ns, (∀ a ∈ ns, a ≤ m) → Φ (.dat (.int m)) M) := propext Iff.rfl
theorem Rb (g : Int → Int → Int → Int) (xs : List DV) (M : Mp) (Φ : DK) : δ3I g xs M Φ = (on3 xs fun x y z => onI x fun i => onI y fun j => onI z fun l => Φ (.dat (.int (g i j l))) M) := propext Iff.rfl
theorem Cc  (xs : List DV) (M : Mp) (Φ : DK) : Dv xs M Φ = (on1 xs fun x => onQ x M fun ds => Φ (.dat (.tuple ds)) M) := propext Iff.rfl
theorem OR (ds : List PyData) (P : List PyData → Prop) : onW (.dat (.tuple ds)) P = P ds := propext Iff.rfl
theorem MX (ds : List PyData) (P : List PyData → Prop) : onW (.dat (.list ds)) P = P ds := propext Iff.rfl
theorem PX  (x : DV) (y : DV) (M : Mp) (Φ : DK) : δIn x y M Φ = (onD x fun d => onW y fun ds => okIn d ds = true ∧ Φ (.dat (.bool (ds.any fun e => PyData.eqv e d))) M) := propext Iff.rfl
theorem CA (to te : DTE) (Δ : DSt) (M : Mp) (Φ : DK) : NX to te Δ M Φ = (to Δ M fun x M1 => onO x fun l => Vg (M1 l) fun _ => te Δ M1 fun y M2 => onO y fun b => Vg (M2 l) fun ds => Vg (M2 b) fun es => b ≠ l ∧ ds.length + es.length ≤ sizeLine ∧ Φ (.dat .none) (V5 (ZF M2 l (.lst (ds ++ es))) b)) := propext Iff.rfl
theorem Th (te : DTE) (tl th : DTO) (Δ : DSt) (M : Mp) (Φ : DK) : Zfp te tl th Δ M Φ = (te Δ M fun x M1 => tl Δ M1 fun l M2 => th Δ M2 fun u M3 => onL x fun ds => Φ (.dat (.list (cutD ds l u))) M3) := propext Iff.rfl
theorem Fo  (xs : List DV) (M : Mp) (Φ : DK) : Tq xs M Φ = (∃ ns : List Int, VR xs M ns ∧ Φ (.dat (.int ns.sum)) M) := propext Iff.rfl
theorem Fl  (xs : List DV) (M : Mp) (Φ : DK) : Me xs M Φ = (∃ bs : List Bool, xs = [.dat (.list (bs.map PyData.bool))] ∧ Φ (.dat (.bool (bs.all id))) M) := propext Iff.rfl
theorem Lv  (xs : List DV) (M : Mp) (Φ : DK) : T7 xs M Φ = (∃ bs : List Bool, xs = [.dat (.list (bs.map PyData.bool))] ∧ Φ (.dat (.bool (bs.any id))) M) := propext Iff.rfl
theorem EY  (xs : List DV) (M : Mp) (Φ : DK) : Px xs M Φ = (on1 xs fun x => onB x fun b => Φ (.dat (.int (if b = true then 1 else 0))) M) := propext Iff.rfl
theorem Te (i j : Nat) (ta : DTA) (D : Qf) (Δ : DSt) (M : Mp) : Zen i j ta D Δ M = (ta Δ M fun xs M1 => on2 xs fun x y => D.nx ((Δ.set i (some x)).set j (some y)) M1) := propext Iff.rfl
theorem HA  (x : DV) (y : DV) (M : Mp) (Φ : DK) : LK x y M Φ = (onK x M fun ds => onK y M fun es => ds.length + es.length ≤ sizeLine ∧ Φ (.dat (.list (ds ++ es))) M) := propext Iff.rfl
theorem TV (te : DTE) (tl th : DTO) (Δ : DSt) (M : Mp) (Φ : DK) : ZeP te tl th Δ M Φ = (te Δ M fun x M1 => tl Δ M1 fun l M2 => th Δ M2 fun u M3 => onK x M3 fun ds => Φ (.dat (.list (cutD ds l u))) M3) := propext Iff.rfl
theorem D8 (ta : DTA) (Δ : DSt) (M : Mp) (Φ : DK) : OP ta Δ M Φ = (ta Δ M fun xs M1 => on2 xs fun x y => onI x fun i => onI y fun j => (InR i ∧ InR j) ∧ (j - i).toNat ≤ 16777216 ∧ Φ (.dat (.list (Xv i (j - i).toNat))) M1) := propext Iff.rfl
theorem P8 (i : Nat) (te : DTE) (f : Int → Int → Int) (D : Qf) (Δ : DSt) (M : Mp) : Zek i te f D Δ M = (onV Δ[i]? fun z => onI z fun a => te Δ M fun x M1 => onI x fun b => D.nx (Δ.set i (some (.dat (.int (f a b))))) M1) := propext Iff.rfl
theorem HM  (xs : List DV) (M : Mp) (Φ : DK) : Sy xs M Φ = (∃ qs : List (Int × Int), xs = [.dat (.list (qs.map prD))] ∧ 0 < qs.length ∧ ∀ q ∈ qs, (∀ r ∈ qs, ltP r q = false) → Φ (.dat (prD q)) M) := propext Iff.rfl
theorem DZ  (z0 : DSt) (M : Mp) (Φ : DK) : MZ z0 M Φ = (∀ p, M p = none → Φ (.own p) (ZF M p (.dct []))) := propext Iff.rfl
theorem Oe (td : DTE) (ta : DTA) (tv : DTE) (D : Qf) (Δ : DSt) (M : Mp) : Zce td ta tv D Δ M = (tv Δ M fun x M1 => td Δ M1 fun y M2 => ta Δ M2 fun zs M3 => onD x fun _ => onO y fun l => on2 zs fun p q => onI p fun i => onI q fun j => MJ (M3 l) fun ks => ks.length < sizeLine ∧ D.nx Δ (ZF M3 l (.dct (ZdY ks (kP i j))))) := propext Iff.rfl
theorem Fn (i j : Int) (P : Int → Int → Prop) : onP (.dat (.tuple [.int i, .int j])) P = P i j := propext Iff.rfl
theorem Nq  (x : DV) (y : DV) (M : Mp) (Φ : DK) : Zbr x y M Φ = (onP x fun i j => onO y fun l => MJ (M l) fun ks => Φ (.dat (.bool (ZaK ks (kP i j)))) M) := propext Iff.rfl
theorem OF (te ts : DTE) (Δ : DSt) (M : Mp) (Φ : DK) : ZbN te ts Δ M Φ = (te Δ M fun x M1 => ts Δ M1 fun y M2 => onT x fun ds => onI y fun i => i = -1 ∧ Φ (.dat (.tuple ds.reverse)) M2) := propext Iff.rfl
theorem O0 (te : DTE) (tl th : DTO) (Δ : DSt) (M : Mp) (Φ : DK) : PB te tl th Δ M Φ = (te Δ M fun x M1 => tl Δ M1 fun l M2 => th Δ M2 fun u M3 => onT x fun ds => Φ (.dat (.tuple (cutD ds l u))) M3) := propext Iff.rfl
theorem Ho (ds : List PyData) (M : Mp) (Φ : DK) : Zay (.dat (.list ds)) M Φ = Φ (.dat (.list ds)) M := propext Iff.rfl
theorem HW (l : Addr) (M : Mp) (Φ : DK) : Zay (.own l) M Φ = Vg (M l) fun ds => Φ (.dat (.list ds)) (V5 M l) := propext Iff.rfl
theorem N1 (t : DTE) (Δ : DSt) (M : Mp) (Φ : DK) : ZcJ t Δ M Φ = (t Δ M fun x M1 => Zay x M1 Φ) := propext Iff.rfl
theorem Zah (src : VB) (Δ : DSt) (M : Mp) (Ψ : List PyData → Mp → Prop) : Za8 src Δ M Ψ = (∃ Ψ', src Δ M Ψ' ∧ ∀ ds M1, Ψ' ds M1 → Ψ ds M1) := propext Iff.rfl
theorem Hm (ow : Bool) (src : VB) (ix : List (Option Nat)) (g : DTG) (tc : DTT) (te : DTE) (Δ : DSt) (M : Mp) (Φ : DK) : Ci ow src ix g tc te Δ M Φ = (src Δ M fun ds M1 => ds.length ≤ sizeLine ∧ QA g tc te (WM ix Δ) (Uh ow Φ) ds [] M1) := propext Iff.rfl
theorem HG (tc : DTT) (tb : DTS) (D : Qf) (Δ : DSt) (M : Mp) : P1 tc tb D Δ M = (∃ J : Nat → DSt → Mp → Prop, (∃ m, J m Δ M) ∧ ∀ n Δ M, J n Δ M → tc Δ M fun b M1 => if b = true then tb { D with nx := fun Δ' M' => ∃ m, m < n ∧ J m Δ' M', ct := fun Δ' M' => ∃ m, m < n ∧ J m Δ' M', bk := D.nx } Δ M1 else D.nx Δ M1) := propext Iff.rfl
theorem Ta (to : DTE) (Δ : DSt) (M : Mp) (Φ : DK) : Zft to Δ M Φ = (to Δ M fun x M1 => onO x fun l => ∃ ds d, M1 l = some (.lst (ds ++ [d])) ∧ Φ (.dat d) (ZF M1 l (.lst ds))) := propext Iff.rfl
theorem Ht (P : Prop) : onN (.dat .none) P = P := propext Iff.rfl
theorem N9 (b : Bool) (x : DV) (y : DV) (M : Mp) (Φ : DK) : Zb4 b x y M Φ = (onD x fun d => onN y <| Φ (.dat (.bool (isNone d != b))) M) := propext Iff.rfl
theorem Dq  (x : DV) (y : DV) (M : Mp) (Φ : DK) : NU x y M Φ = (onD x fun d => onW y fun ds => okIn d ds = true ∧ Φ (.dat (.bool (!(ds.any fun e => PyData.eqv e d)))) M) := propext Iff.rfl
theorem Bi  (x : DV) (y : DV) (M : Mp) (Φ : DK) : Ly x y M Φ = (onP x fun i j => onO y fun l => MJ (M l) fun ks => Φ (.dat (.bool (!ZaK ks (kP i j)))) M) := propext Iff.rfl
end DL
namespace DL
open PySem PySem.Spec PyProof.Rows L2
noncomputable def Po (x : Str) (lo hi : Option Int) : Str := ⟨((x.cps.toList.drop (HT.sIx x.length 0 lo)).take (HT.sIx x.length x.length hi - HT.sIx x.length 0 lo)).toArray⟩
section
variable {X : Cx} {a b : Expr} {ta tb : DTE} {pos : Pos}
noncomputable def Zf5 : V → Option Int → Option Int → Hp → VK → Prop := fun x lo hi H Q => ∃ z, x = .str z ∧ z.length ≤ sizeLine ∧ Q (.str (Po z lo hi)) H
noncomputable def Zet (te : DTE) (tl th : DTO) : DTE := fun Δ M Φ => te Δ M fun x M1 => tl Δ M1 fun l M2 => th Δ M2 fun u M3 => onS x fun s => s.length ≤ sizeLine ∧ Φ (.dat (.str (Po s l u))) M3
noncomputable def ZcH : D2 := fun x y M Φ => onS x fun s => onI y fun i => s.length ≤ sizeLine ∧ ∃ c, L2.atI s.cps.toList i = some c ∧ Φ (.dat (.str ⟨#[c]⟩)) M
noncomputable def SO : D2 := fun x y M Φ => onS x fun s => onS y fun t => s.length + t.length ≤ sizeLine ∧ Φ (.dat (.str (s ++ t))) M
noncomputable def Zdo (s : Str) (n : Nat) : Str := ⟨((List.replicate n s.cps.toList).flatten).toArray⟩
noncomputable def RX : D2 := fun x y M Φ => onS x fun s => onI y fun i => (1 ≤ i ∧ i ≤ 1000 ∧ s.length ≤ 1000) ∧ Φ (.dat (.str (Zdo s i.toNat))) M
noncomputable def ZcD : D2 := fun x y M Φ => onS x fun s => onS y fun t => Φ (.dat (.bool (!decide (t.cps.toList < s.cps.toList)))) M
noncomputable def Its (x : Str) : It := ⟨fun i _ => i < x.length, fun i H y H' => H' = H ∧ ∃ c, x.cps[i]? = some c ∧ y = .str ⟨#[c]⟩, fun i _ => x.length ≤ i⟩
noncomputable def Zgo (tl : TE) : TI := fun σ H R => tl σ H fun x H1 => ∃ z, x = .str z ∧ R (Its z) H1
noncomputable def Pr (c : Nat) : PyData := .str ⟨#[c]⟩
noncomputable def ZeT (te : DTE) : VB := fun Δ M Ψ => te Δ M fun x M1 => onS x fun s => Ψ (s.cps.toList.map Pr) M1
noncomputable def OK : D1 := fun xs M Φ => on1 xs fun x => onS x fun s => s.length ≤ sizeLine ∧ Φ (.dat (.list (s.cps.toList.map Pr))) M
noncomputable def Rj : D1 := fun xs M Φ => on1 xs fun x => onS x fun s => s.length ≤ sizeLine ∧ Φ (.dat (.tuple (s.cps.toList.map Pr))) M
noncomputable def rJoin (K : PySem.W.Frag) : V → List V → Hp → VK → Prop := fun x xs H Q => ∃ z p ss, x = .str z ∧ xs = [.ref p] ∧ SqL K H p (ss.map V.str) ∧ JoinOk z ss = true ∧ Q (.str (Txt.join z ss)) H
noncomputable def ZdX (ds : List PyData) (P : List Str → Prop) : Prop := ∃ ss, ds = ss.map PyData.str ∧ P ss
noncomputable def Zcb (to te : DTE) : DTE := fun Δ M Φ => to Δ M fun x M1 => onS x fun z => te Δ M1 fun y M2 => onK y M2 fun ds => ZdX ds fun ss => JoinOk z ss = true ∧ Φ (.dat (.str (Txt.join z ss))) M2
noncomputable def rUp : V → List V → Hp → VK → Prop := fun x xs H Q => ∃ z, x = .str z ∧ xs = [] ∧ z.length ≤ 1000 ∧ Q (.str (Txt.upper z)) H
noncomputable def Rh (to : DTE) : DTE := fun Δ M Φ => to Δ M fun x M1 => onS x fun z => z.length ≤ 1000 ∧ Φ (.dat (.str (Txt.upper z))) M1
end
theorem RK (te : DTE) (tl th : DTO) (Δ : DSt) (M : Mp) (Φ : DK) : Zet te tl th Δ M Φ = (te Δ M fun x M1 => tl Δ M1 fun l M2 => th Δ M2 fun u M3 => onS x fun s => s.length ≤ sizeLine ∧ Φ (.dat (.str (Po s l u))) M3) := propext Iff.rfl
theorem OU (x y : DV) (M : Mp) (Φ : DK) : ZcH x y M Φ = (onS x fun s => onI y fun i => s.length ≤ sizeLine ∧ ∃ c, L2.atI s.cps.toList i = some c ∧ Φ (.dat (.str ⟨#[c]⟩)) M) := propext Iff.rfl
theorem Fm (x y : DV) (M : Mp) (Φ : DK) : SO x y M Φ = (onS x fun s => onS y fun t => s.length + t.length ≤ sizeLine ∧ Φ (.dat (.str (s ++ t))) M) := propext Iff.rfl
theorem EV (x y : DV) (M : Mp) (Φ : DK) : RX x y M Φ = (onS x fun s => onI y fun i => (1 ≤ i ∧ i ≤ 1000 ∧ s.length ≤ 1000) ∧ Φ (.dat (.str (Zdo s i.toNat))) M) := propext Iff.rfl
theorem OD (x y : DV) (M : Mp) (Φ : DK) : ZcD x y M Φ = (onS x fun s => onS y fun t => Φ (.dat (.bool (!decide (t.cps.toList < s.cps.toList)))) M) := propext Iff.rfl
theorem RW (te : DTE) (Δ : DSt) (M : Mp) (Ψ : List PyData → Mp → Prop) : ZeT te Δ M Ψ = (te Δ M fun x M1 => onS x fun s => Ψ (s.cps.toList.map Pr) M1) := propext Iff.rfl
theorem Es (xs : List DV) (M : Mp) (Φ : DK) : OK xs M Φ = (on1 xs fun x => onS x fun s => s.length ≤ sizeLine ∧ Φ (.dat (.list (s.cps.toList.map Pr))) M) := propext Iff.rfl
theorem Ha (xs : List DV) (M : Mp) (Φ : DK) : Rj xs M Φ = (on1 xs fun x => onS x fun s => s.length ≤ sizeLine ∧ Φ (.dat (.tuple (s.cps.toList.map Pr))) M) := propext Iff.rfl
theorem OZ (to te : DTE) (Δ : DSt) (M : Mp) (Φ : DK) : Zcb to te Δ M Φ = (to Δ M fun x M1 => onS x fun z => te Δ M1 fun y M2 => onK y M2 fun ds => ZdX ds fun ss => JoinOk z ss = true ∧ Φ (.dat (.str (Txt.join z ss))) M2) := propext Iff.rfl
theorem HN (to : DTE) (Δ : DSt) (M : Mp) (Φ : DK) : Rh to Δ M Φ = (to Δ M fun x M1 => onS x fun z => z.length ≤ 1000 ∧ Φ (.dat (.str (Txt.upper z))) M1) := propext Iff.rfl
theorem str_len (s : Str) : s.cps.toList.length = s.length := by simp [Str.length]
theorem add_list (s t : Str) : (s ++ t).cps.toList = s.cps.toList ++ t.cps.toList := by rw [Str.cps_append, Array.toList_append]
theorem ZbD (s t : Str) : (s ++ t).length = s.length + t.length := Str.length_append s t
theorem Kw (c : Nat) : (⟨#[c]⟩ : Str).cps.toList = [c] := rfl
theorem Zb0 (c : Nat) : (⟨#[c]⟩ : Str).length = 1 := rfl
theorem Gr (s : Str) (lo hi : Option Int) : (Po s lo hi).cps.toList = (s.cps.toList.drop (HT.sIx s.length 0 lo)).take (HT.sIx s.length s.length hi - HT.sIx s.length 0 lo) := rfl
theorem Za3 {s : Str} {lo hi : Option Int} {c : Nat} (h : c ∈ (Po s lo hi).cps.toList) : c ∈ s.cps.toList := by
 rw [Gr] at h
 exact List.mem_of_mem_drop (List.mem_of_mem_take h)
theorem Zb2 (s : Str) (lo hi : Option Int) : (Po s lo hi).length = HT.sIx s.length s.length hi - HT.sIx s.length 0 lo := by
 have l1 := HT.Mg s.length s.length (Nat.le_refl _) hi
 rw [← str_len, Gr, List.length_take, List.length_drop, str_len]
 omega
theorem ZdR {n d : Nat} {i : Int} (h0 : 0 ≤ i) : HT.sIx n d (some i) = min i.toNat n := by
 obtain ⟨k, rfl⟩ := Int.eq_ofNat_of_zero_le h0
 rw [HT.MV]
 rfl
theorem join_list : ∀ ss : List Str, (Txt.join (Str.ofString "") ss).cps.toList = (ss.map (·.cps.toList)).flatten := by
 have e0 : (Str.ofString "").cps.toList = [] := by decide +kernel
 have go : ∀ ss : List Str, (Str.join (Str.ofString "") ss).cps.toList = (ss.map (·.cps.toList)).flatten := fun ss => by
  induction ss with
  | nil => rfl
  | cons s ss ih =>
   cases ss with
   | nil => simp [Str.join]
   | cons t ss =>
    rw [Str.join, add_list, add_list, e0, ih]
    ·simp
    ·simp
 intro ss
 have : Txt.join (Str.ofString "") ss = Str.join (Str.ofString "") ss := by
  exact StrLaws.glued_eq_join _ _
 rw [this, go]
theorem ZcB {sep : Str} {ss : List Str} {B : Nat} (hB : ∀ y ∈ ss, y.length ≤ B) (h : ss.length * B + ss.length * sep.length ≤ 16777216) : JoinOk sep ss = true := by
 unfold JoinOk
 rw [StrLaws.joinFits hB h]
 rfl
end DL
namespace DL
open PySem PySem.Spec PyProof.Rows L2 PySem.W
section
variable {n : Nat} {lt : Nat → Nat → Bool}
noncomputable def KOk (n : Nat) (lt : Nat → Nat → Bool) {α : Type} : KasT α → (α → Prop) → Prop
 | .ret a, Q => Q a
 | .ask i j k, Q => i < n ∧ j < n ∧ i ≠ j ∧ KOk n lt (k (lt i j)) Q
theorem KOk.bind {α β : Type} {f : α → KasT β} {Q : β → Prop} : ∀ {t : KasT α}, KOk n lt t (fun a => KOk n lt (f a) Q) → KOk n lt (t.bind f) Q
 | .ret _, h => h
 | .ask i j k, h => ⟨h.1, h.2.1, h.2.2.1, KOk.bind (t := k (lt i j)) h.2.2.2⟩
noncomputable def Le (lt : Nat → Nat → Bool) (a b : Nat) : Prop := lt b a = false
structure Ord (lt : Nat → Nat → Bool) : Prop where
 asym : ∀ a b, lt a b = true → lt b a = false
 tran : ∀ a b c, Le lt a b → Le lt b c → Le lt a c
theorem Ord.refl (o : Ord lt) (a : Nat) : Le lt a a := by
 unfold Le
 cases h : lt a a with
 | false => rfl
 | true => have := o.asym a a h; rw [h] at this; cases this
noncomputable abbrev at' (p : Array Nat) (k : Nat) : Nat := p.getD k 0
noncomputable def Up (lt : Nat → Nat → Bool) (p : Array Nat) (m : Nat) : Prop := ∀ i j, i ≤ j → j < m → Le lt (at' p i) (at' p j)
noncomputable def Dn (lt : Nat → Nat → Bool) (p : Array Nat) (m : Nat) : Prop := ∀ i j, i ≤ j → j < m → Le lt (at' p j) (at' p i)
noncomputable def Pm (n : Nat) (p : Array Nat) : Prop := p.Perm (List.range n).toArray
noncomputable def Blk (lt : Nat → Nat → Bool) (p : Array Nat) (m q : Nat) : Prop := ∀ i j, m - (q + 1) ≤ i → i < m → m - (q + 1) ≤ j → j < m → Le lt (at' p i) (at' p j)
noncomputable def Cnt (n : Nat) (lt : Nat → Nat → Bool) (r : Nat × Array Nat) : Prop := Pm n r.2 ∧ r.1 ≤ n ∧ Up lt r.2 r.1
end
end DL
namespace DL
open PySem PySem.Spec PyProof.Rows L2 PySem.W
section
variable {prog : Program} {w : World} {A : Around} {E : Value → Shared → Prop} {s : Shared} {lt : Nat → Nat → Bool}
noncomputable abbrev ZeQ (vs : List Value) (q : Array Nat) : Array Value := List.toArray (q.toList.map fun i => vs.getD i Value.none)
end
noncomputable def ZaS : PyData → Option Str
 | .tuple (.str s :: _) => some s
 | _ => none
noncomputable def ltK (ks : List Str) (i j : Nat) : Bool := decide ((ks.getD i Str.empty).cps.toList < (ks.getD j Str.empty).cps.toList)
section
variable {X : Cx}
noncomputable def ZdO (K : PySem.W.Frag) : List V → Hp → VK → Prop := fun xs H Q => ∃ (p : Addr) (M : Mp) (vs : List V) (ds : List PyData) (ks : List Str), xs = [.ref p] ∧ SqL K H p vs ∧ Dts K M H vs ds ∧ ds.map ZaS = ks.map some ∧ ks.Nodup ∧ ds.length < 64 ∧
 ∀ q, Pm ds.length q → Up (ltK ks) q ds.length → ∀ l, H l = none → Q (.ref l) (upd H l (.lst (q.toList.map fun i => vs.getD i .non)))
noncomputable def leK (a b : PyData) : Prop := ∀ s t, ZaS a = some s → ZaS b = some t → ¬ t.cps.toList < s.cps.toList
noncomputable def ZbX : D1 := fun xs M Φ => on1 xs fun x => onK x M fun ds => ∃ ks : List Str, ds.map ZaS = ks.map some ∧ ks.Nodup ∧ ds.length < 64 ∧ ∀ ds' : List PyData, ds'.Perm ds → ds'.Pairwise leK → Φ (.dat (.list ds')) M
end
end DL
namespace DL
open PySem PySem.Spec PyProof.Rows L2 PySem.W
section
variable {prog : Program} {w : World} {A : Around} {E : Value → Shared → Prop} {s : Shared}
noncomputable def LAt (a : Addr) (h : Heap) : Prop := ∃ xs n sl, h.get? a = some { cls := .type "list", data := .seq xs n, slots := sl }
variable {K : Type} [DecidableEq K] {knd : KeyKind prog w K}
noncomputable def ZeY (h : Heap) (v key val : Value) : Prop := ∃ a o c, v = .ref a ∧ h.get? a = some o ∧ o.cls = .type "tuple" ∧ o.data = .seq #[key, val] c
end
section
variable {X : Cx}
noncomputable def V2 (K : PySem.W.Frag) (H : Hp) (v : V) (p : Key × V) : Prop := ∃ a, v = .ref a ∧ SqT K H a [kV p.1, p.2]
noncomputable def Zdm (K : PySem.W.Frag) : List V → Hp → VK → Prop := fun xs H Q => ∃ (a : Addr) (vs : List V) (ps : List (Key × V)), xs = [.ref a] ∧ SqL K H a vs ∧ vs.length = ps.length ∧ (∀ (j : Nat) (p : Key × V), ps[j]? = some p → ∃ v, vs[j]? = some v ∧ V2 K H v p) ∧
 ∀ l, H l = none → Q (.ref l) (upd H l (.dK (ps.foldl (fun m p => putK m p.1 p.2) [])))
end
end DL
namespace DL
open PySem PySem.Spec PyProof.Rows L2
noncomputable def XZ (o : Option OO) (P : List (Key × PyData) → Prop) : Prop := match o with | some (.dkv ps) => P ps | _ => False
noncomputable def QE (ps : List (Key × PyData)) (k : Key) : Option PyData := (ps.find? fun kv => decide (kv.1 = k)).map (·.2)
noncomputable def FP (ps : List (Key × PyData)) (k : Key) (d : PyData) : List (Key × PyData) := if (ps.any fun kv => decide (kv.1 = k)) = true then ps.map (fun kv => if kv.1 = k then (kv.1, d) else kv) else ps ++ [(k, d)]
section
variable {K : PySem.W.Frag} {M : Mp} {H : Hp}
inductive KD (K : PySem.W.Frag) (M : Mp) (H : Hp) : List (Key × V) → List (Key × PyData) → Prop
 | nil : KD K M H [] []
 | cons {k : Key} {v : V} {d : PyData} {kvs : List (Key × V)} {ps : List (Key × PyData)} : Dt K M H v d → KD K M H kvs ps → KD K M H ((k, v) :: kvs) ((k, d) :: ps)
theorem KD.of : ∀ {kvs : List (Key × V)} {ps : List (Key × PyData)}, kvs.map (·.1) = ps.map (·.1) → Dts K M H (kvs.map (·.2)) (ps.map (·.2)) → KD K M H kvs ps
 | [], [], _, _ => .nil
 | [], _ :: _, h, _ => by simp at h
 | _ :: _, [], h, _ => by simp at h
 | (k, v) :: kvs, (k', d) :: ps, h, hd => by
  rw [List.map_cons, List.map_cons, List.cons.injEq] at h
  cases (show k = k' from h.1)
  cases hd with
  | cons h1 h2 => exact .cons h1 (KD.of h.2 h2)
theorem KD.keys : ∀ {kvs : List (Key × V)} {ps : List (Key × PyData)}, KD K M H kvs ps → kvs.map (·.1) = ps.map (·.1)
 | _, _, .nil => rfl
 | _, _, .cons _ h => by rw [List.map_cons, List.map_cons, h.keys]
theorem KD.any (k : Key) : ∀ {kvs : List (Key × V)} {ps : List (Key × PyData)}, KD K M H kvs ps → (kvs.any fun kv => decide (kv.1 = k)) = ps.any fun kv => decide (kv.1 = k)
 | _, _, .nil => rfl
 | _, _, .cons _ h => by rw [List.any_cons, List.any_cons, h.any k]
theorem KD.snoc {k : Key} {v : V} {d : PyData} (hd : Dt K M H v d) : ∀ {kvs : List (Key × V)} {ps : List (Key × PyData)}, KD K M H kvs ps → KD K M H (kvs ++ [(k, v)]) (ps ++ [(k, d)])
 | _, _, .nil => .cons hd .nil
 | _, _, .cons h1 h => .cons h1 (h.snoc hd)
theorem KD.NB (k : Key) {v : V} {d : PyData} (hd : Dt K M H v d) : ∀ {kvs : List (Key × V)} {ps : List (Key × PyData)}, KD K M H kvs ps → KD K M H (kvs.map fun kv => if kv.1 = k then (kv.1, v) else kv) (ps.map fun kv => if kv.1 = k then (kv.1, d) else kv)
 | _, _, .nil => .nil
 | _, _, .cons (k := k') h1 h => by
  rw [List.map_cons, List.map_cons]
  by_cases e : k' = k
  ·rw [if_pos e, if_pos e]
   exact .cons hd (h.NB k hd)
  ·rw [if_neg e, if_neg e]
   exact .cons h1 (h.NB k hd)
theorem KD.put (k : Key) {v : V} {d : PyData} (hd : Dt K M H v d) {kvs : List (Key × V)} {ps : List (Key × PyData)} (h : KD K M H kvs ps) : KD K M H (putK kvs k v) (FP ps k d) := by
 unfold putK FP
 rw [h.any k]
 split
 ·exact h.NB k hd
 ·exact h.snoc hd
theorem KD.val (k : Key) : ∀ {kvs : List (Key × V)} {ps : List (Key × PyData)}, KD K M H kvs ps → (Xh kvs k = none ∧ QE ps k = none) ∨ ∃ v d, Xh kvs k = some v ∧ QE ps k = some d ∧ Dt K M H v d
 | _, _, .nil => .inl ⟨rfl, rfl⟩
 | _, _, .cons (k := k') (v := v) (d := d) h1 h => by
  unfold Xh QE
  by_cases e : k' = k
  ·rw [List.find?_cons_of_pos (by simpa using e), List.find?_cons_of_pos (by simpa using e)]
   exact .inr ⟨v, d, rfl, rfl, h1⟩
  ·rw [List.find?_cons_of_neg (by simpa using e), List.find?_cons_of_neg (by simpa using e)]
   exact h.val k
theorem KD.length {kvs : List (Key × V)} {ps : List (Key × PyData)} (h : KD K M H kvs ps) : kvs.length = ps.length := by
 have := congrArg List.length h.keys
 simpa using this
end
section
variable {X : Cx} {o i e value : Expr} {td ti te tv : DTE} {pos pos' : Pos}
noncomputable def ZbP : DTE := fun _ M Φ => ∀ p, M p = none → Φ (.own p) (ZF M p (.dkv []))
noncomputable def ZeC (td ti tv : DTE) : DTS := fun D Δ M => tv Δ M fun x M1 => td Δ M1 fun y M2 => ti Δ M2 fun z M3 => onD x fun d => onO y fun l => onS z fun s => XZ (M3 l) fun ps => ps.length < sizeLine ∧ D.nx Δ (ZF M3 l (.dkv (FP ps (.inr s) d)))
theorem KD.some {K : PySem.W.Frag} {M : Mp} {H : Hp} {kvs : List (Key × V)} {ps : List (Key × PyData)} (h : KD K M H kvs ps) (k : Key) : (Xh kvs k).isSome = (QE ps k).isSome := by
 rcases h.val k with ⟨a, b⟩ | ⟨v, d, a, b, _⟩
 ·rw [a, b]; rfl
 ·rw [a, b]; rfl
noncomputable def Zd9 (neg : Bool) : D2 := fun x y M Φ => onS x fun s => onO y fun l => XZ (M l) fun ps => Φ (.dat (.bool ((QE ps (.inr s)).isSome != neg))) M
noncomputable def Zcc (td ti : DTE) : DTE := fun Δ M Φ => td Δ M fun x M1 => ti Δ M1 fun y M2 => onO x fun l => onS y fun s => XZ (M2 l) fun ps => ∃ d, QE ps (.inr s) = some d ∧ Φ (.dat d) M2
noncomputable def Zei (td ti : DTE) : DTE := fun Δ M Φ => td Δ M fun x M1 => onO x fun l => XZ (M1 l) fun _ => ti Δ M1 fun y M2 => onS y fun s => XZ (M2 l) fun ps => Φ (.dat ((QE ps (.inr s)).getD .none)) M2
noncomputable def ZdC : D1 := fun xs M Φ => on1 xs fun x => onO x fun l => XZ (M l) fun ps => Φ (.dat (.int ps.length)) M
noncomputable def pairD (p : Str × PyData) : PyData := .tuple [.str p.1, p.2]
noncomputable def Zct (l : List (Str × PyData)) : List (Key × PyData) := l.foldl (fun m p => FP m (.inr p.1) p.2) []
noncomputable def ZaV : D1 := fun xs M Φ => on1 xs fun x => onK x M fun ds => ∃ l : List (Str × PyData), ds = l.map pairD ∧ ∀ p, M p = none → Φ (.own p) (ZF M p (.dkv (Zct l)))
end
theorem Pe (td ti : DTE) (Δ : DSt) (M : Mp) (Φ : DK) : Zcc td ti Δ M Φ = (td Δ M fun x M1 => ti Δ M1 fun y M2 => onO x fun l => onS y fun s => XZ (M2 l) fun ps => ∃ d, QE ps (.inr s) = some d ∧ Φ (.dat d) M2) := propext Iff.rfl
end DL
namespace DL
open PySem PySem.Spec PyProof.Rows L2 PySem.W
section
variable {X : Cx}
noncomputable def Ze1 (te ts : DTE) : DTE := fun Δ M Φ => te Δ M fun x M1 => ts Δ M1 fun y M2 => onK x M2 fun ds => onI y fun i => i = -1 ∧ Φ (.dat (.list ds.reverse)) M2
end
end DL
namespace DL
open PySem PySem.Spec PyProof.Rows L2 PySem.W
section
variable {prog : Program} {w : World} {A : Around} {E : Value → Shared → Prop} {s : Shared}
end
section
variable {prog : Program} {w : World} {A : Around} {E : Value → Shared → Prop} {s : Shared}
end
section
variable {X : Cx} {pins : List (Addr × Obj)} {σ : L2.St} {H : Hp} {s : Shared} {h' : Heap}
end
noncomputable def Ite (K : PySem.W.Frag) (a : Addr) : It :=
 ⟨fun i H => ∃ xs x, SqT K H a xs ∧ xs[i]? = some x, fun i H y H' => ∃ T x, (∀ xs, SqT K H a xs → xs[i]? = some x) ∧ H T = none ∧ y = .ref T ∧ H' = upd H T (.tup [.int i, x]), fun i H => ∃ xs, SqT K H a xs ∧ xs.length ≤ i⟩
section
variable {X : Cx}
noncomputable def Zfj (K : PySem.W.Frag) (ta : TA) : TI := fun σ H R => ta σ H fun vs H1 => ∃ a, vs = [.ref a] ∧ (∃ xs, SqT K H1 a xs) ∧ R (Ite K a) H1
noncomputable def Zck (ds : List PyData) : List PyData := ds.mapIdx fun i d => .tuple [.int i, d]
noncomputable def Zgj (ta : DTA) : VB := fun Δ M Ψ => ta Δ M fun xs M1 => on1 xs fun x => onT x fun ds => Ψ (Zck ds) M1
end
end DL
namespace DL
open PySem PySem.Spec PyProof.Rows L2 PySem.W
section
variable {prog : Program} {w : World} {A : Around} {E : Value → Shared → Prop} {s : Shared}
end
section
variable {X : Cx} {pos : Pos}
noncomputable def Zeg (n : Nat) (t : Ew) : DTG := fun x Δ M Φ => onL x fun ds => LJ n ds fun xs => t xs Δ M Φ
end
end DL
namespace DL
open PySem PySem.Spec PyProof.Rows L2 PySem.W
section
variable {X : Cx}
noncomputable def Zbt : D2 := fun x y M Φ => onK x M fun ds => onK y M fun es => es = [] ∧ Φ (.dat (.bool (!ds.isEmpty))) M
noncomputable def BJ : D2 := fun x y M Φ => onK x M fun ds => onK y M fun es => ds.length + es.length ≤ sizeLine ∧ ∀ p, M p = none → Φ (.own p) (ZF M p (.lst (ds ++ es)))
theorem FK : OpD X (binaryOp .Add) BJ := by
 refine ⟨_, Gb, fun v u H x y M Φ Q r rv ru h k => ?_⟩
 replace h := U5 h
 obtain ⟨ds, hx, h⟩ := h
 replace h := U5 h
 obtain ⟨es, hy, hz, q⟩ := h
 replace hx : Pp x M ds := hx
 replace hy : Pp y M es := hy
 obtain ⟨a, xs, rfl, h1, h2⟩ := hx.sq r rv
 obtain ⟨b, ys, rfl, h3, h4⟩ := hy.sq r ru
 refine ⟨a, b, xs, ys, rfl, rfl, h1, h3, by rw [h2.length, h4.length]; exact hz, fun p hp => ?_⟩
 exact k _ _ (.own p) _ (r.Yh (Step.Js hp) (h2.append h4)) (Step.Js hp) rfl (q p (r.tracked hp))
noncomputable def Zb7 : D1 := fun xs M Φ => on1 xs fun x => onI x fun i => Φ (.dat (.bool (i != 0))) M
theorem DB (x y : DV) (M : Mp) (Φ : DK) : BJ x y M Φ = (onK x M fun ds => onK y M fun es => ds.length + es.length ≤ sizeLine ∧ ∀ p, M p = none → Φ (.own p) (ZF M p (.lst (ds ++ es)))) := propext Iff.rfl
end
noncomputable def isS (h : PyData) (s : Str) : Bool := match h with | .str t => decide (t = s) | _ => false
end DL
namespace DL
open PySem PySem.Spec PyProof.Rows L2 PySem.W PySem.SeqAt PySem.MeetsSeq
theorem JN (l : Addr) (es : Array DictEntry) (n : Nat) (dd : Option Addr) (sl : Array (Option Value)) (b : Str) (u : Tok) :
  Meets (Builtin.«dict.__eq__» ⟨[.ref l, .str b u], []⟩) (fun _ R s => s.heap.get? l = some { cls := .type "dict", dict := dd, data := .dict es n, slots := sl } ∧ R (.ok (.ret .notImplemented)) s) :=
 .of_wp fun prog w A R s h => by
  obtain ⟨hp, g, d, tk, os⟩ := s; obtain ⟨hl, h⟩ := h
  have f1 := F.sub_str_dict
  wp_walk using wpAny_loadPart' hl
  exact ⟨_, rfl, h⟩
theorem JO (b : Str) (u : Tok) (l : Addr) (c : Value) (es : Array DictEntry) (n : Nat) (dd : Option Addr) (sl : Array (Option Value)) :
  Meets (Builtin.«str.__eq__» ⟨[.str b u, .ref l], []⟩) (fun _ R s => s.heap.get? l = some { cls := c, dict := dd, data := .dict es n, slots := sl } ∧ R (.ok (.ret .notImplemented)) s) :=
 .of_wp fun prog w A R s h => by obtain ⟨hp, g, d, tk, os⟩ := s; obtain ⟨hl, h⟩ := h; wp_walk using wpAny_loadPart' hl, wpAny_load hl; exact ⟨_, rfl, h⟩
section
variable {A : Around} {s : Shared}
noncomputable def Zd7 (h : Heap) (l : Addr) : Prop := ∃ (o : Obj) (es : Array DictEntry) (n : Nat), h.get? l = some o ∧ o.cls = .type "dict" ∧ o.data = .dict es n
theorem W6 {l : Addr} (b : Str) (u : Tok) (hl : Zd7 s.heap l) (hu : A.units < cLine) : RcAt A s (.ref l) (.str b u) false := fun prog w E Q h => by
 obtain ⟨⟨cls, dd, data, sl⟩, es, n, ho, hc, hd⟩ := hl
 simp only at hc hd
 subst hc hd
 exact rc_eq_decline_or (k := false) ⟨_, ho, rfl⟩ (typeIs_str s b u) (by decide) F.sub_str_dict F.slot_dict_eq F.slot_str_eq_refl
  (fun _ hq => call_meets F.slot_dict_eq ⟨_, ho, rfl⟩ F.entry_dict_eq (F.args_dict_eq_2 _ _) (JN l es n dd sl b u) ⟨ho, hq⟩)
  (fun _ hq => call_meets F.slot_str_eq_refl (typeIs_str s b u) F.entry_str_eq (F.args_str_eq_2 _ _) (JO b u l (.type "dict") es n dd sl) ⟨ho, hq⟩)
  (fun _ hq => wpAny_of_eq (rfl : isSame (.ref l) (.str b u) = pure false) hq) (.inr hu) h
end
section
variable {X : Cx}
inductive Bs (h : Heap) (b : Bool) (t : Str) : Value → Prop
 | non : b = false → Bs h b t .none
 | bl (k : Bool) : b = false → Bs h b t (.bool k)
 | int (i : Int) (u : Tok) : b = false → Bs h b t (.int i u)
 | str (x : Str) (u : Tok) : b = decide (x = t) → Bs h b t (.str x u)
 | tup {a : Addr} {items : Array Value} : h.IsTuple a items → b = false → Bs h b t (.ref a)
 | lst {a : Addr} {items : Array Value} : h.IsList a items → b = false → Bs h b t (.ref a)
 | dic {a : Addr} : Zd7 h a → b = false → Bs h b t (.ref a)
theorem Bs.rc {A : Around} {s : Shared} {b : Bool} {t : Str} {v : Value} (u : Tok) (h : Bs s.heap b t v) (hu : A.units < cLine) : RcAt A s v (.str t u) b := by
 cases h with
 | non e => rw [e]; exact RcAt.none_str t u
 | bl k e => rw [e]; exact RcAt.bool_str k t u
 | int i w e => rw [e]; exact RcAt.int_str i w t u
 | str x w e => rw [e, ← Bool.beq_eq_decide_eq]; exact RcAt.str_str x w t u
 | tup p e => rw [e]; exact RcAt.tuple_str t u p hu
 | lst p e => rw [e]; exact RcAt.list_str t u p hu
 | dic p e => rw [e]; exact W6 t u p hu
noncomputable def Zcf : D2 := fun x y M Φ => onD x fun d => onS y fun t => Φ (.dat (.bool (isS d t))) M
noncomputable def Zb3 : D2 := fun x y M Φ => onD x fun d => onT y fun ds => ∃ ts : List Str, ds = ts.map PyData.str ∧ Φ (.dat (.bool (ts.any (isS d)))) M
theorem Nd (x y : DV) (M : Mp) (Φ : DK) : Zcf x y M Φ = (onD x fun d => onS y fun t => Φ (.dat (.bool (isS d t))) M) := propext Iff.rfl
theorem Nk (x y : DV) (M : Mp) (Φ : DK) : Zb3 x y M Φ = (onD x fun d => onT y fun ds => ∃ ts : List Str, ds = ts.map PyData.str ∧ Φ (.dat (.bool (ts.any (isS d)))) M) := propext Iff.rfl
end
end DL
namespace DL
open PySem PySem.Spec PyProof.Rows L2 PySem.W
section
variable {X : Cx} {pos : Pos}
noncomputable def Zai (tk0 tk1 tk2 tk3 tk4 tk5 tv0 tv1 tv2 tv3 tv4 tv5 : DTE) : DTE := fun Δ M Φ => tk0 Δ M fun x0 M1 => tv0 Δ M1 fun y0 M2 => tk1 Δ M2 fun x1 M3 => tv1 Δ M3 fun y1 M4 => tk2 Δ M4 fun x2 M5 => tv2 Δ M5 fun y2 M6 => tk3 Δ M6 fun x3 M7 => tv3 Δ M7 fun y3 M8 => tk4 Δ M8 fun x4 M9 => tv4 Δ M9 fun y4 M10 => tk5 Δ M10 fun x5 M11 => tv5 Δ M11 fun y5 M12 => onS x0 fun s0 => onD y0 fun d0 => onS x1 fun s1 => onD y1 fun d1 => onS x2 fun s2 => onD y2 fun d2 => onS x3 fun s3 => onD y3 fun d3 => onS x4 fun s4 => onD y4 fun d4 => onS x5 fun s5 => onD y5 fun d5 => ([s0, s1, s2, s3, s4, s5] : List Str).Nodup ∧ ∀ p, M12 p = none → Φ (.own p) (ZF M12 p (.dkv [(Sum.inr s0, d0), (Sum.inr s1, d1), (Sum.inr s2, d2), (Sum.inr s3, d3), (Sum.inr s4, d4), (Sum.inr s5, d5)]))
theorem Lm (tk0 tk1 tk2 tk3 tk4 tk5 tv0 tv1 tv2 tv3 tv4 tv5 : DTE) (Δ : DSt) (M : Mp) (Φ : DK) : Zai tk0 tk1 tk2 tk3 tk4 tk5 tv0 tv1 tv2 tv3 tv4 tv5 Δ M Φ = (tk0 Δ M fun x0 M1 => tv0 Δ M1 fun y0 M2 => tk1 Δ M2 fun x1 M3 => tv1 Δ M3 fun y1 M4 => tk2 Δ M4 fun x2 M5 => tv2 Δ M5 fun y2 M6 => tk3 Δ M6 fun x3 M7 => tv3 Δ M7 fun y3 M8 => tk4 Δ M8 fun x4 M9 => tv4 Δ M9 fun y4 M10 => tk5 Δ M10 fun x5 M11 => tv5 Δ M11 fun y5 M12 => onS x0 fun s0 => onD y0 fun d0 => onS x1 fun s1 => onD y1 fun d1 => onS x2 fun s2 => onD y2 fun d2 => onS x3 fun s3 => onD y3 fun d3 => onS x4 fun s4 => onD y4 fun d4 => onS x5 fun s5 => onD y5 fun d5 => ([s0, s1, s2, s3, s4, s5] : List Str).Nodup ∧ ∀ p, M12 p = none → Φ (.own p) (ZF M12 p (.dkv [(Sum.inr s0, d0), (Sum.inr s1, d1), (Sum.inr s2, d2), (Sum.inr s3, d3), (Sum.inr s4, d4), (Sum.inr s5, d5)]))) := propext Iff.rfl
theorem Dts.rep {K : PySem.W.Frag} {M : Mp} {H : Hp} {vs : List V} {ds : List PyData} (h : Dts K M H vs ds) : ∀ n : Nat, Dts K M H (List.replicate n vs).flatten (List.replicate n ds).flatten
 | 0 => .nil
 | n + 1 => by rw [List.replicate_succ, List.replicate_succ, List.flatten_cons, List.flatten_cons]; exact h.append (h.rep n)
noncomputable def R6 : D2 := fun x y M Φ => onO x fun l => onI y fun i => Vg (M l) fun ds => (0 ≤ i ∧ i < 2 ^ 63 ∧ ds.length * i.toNat ≤ sizeLine) ∧ Φ (.dat (.list (List.replicate i.toNat ds).flatten)) M
theorem Zan : OpD X (binaryOp .Mult) R6 := by
 refine ⟨_, Zag, fun v u H x y M Φ Q r rv ru h k => ?_⟩
 replace h := Jk h
 obtain ⟨l, rfl, h⟩ := h
 replace h := ZP h
 obtain ⟨i, rfl, h⟩ := h
 replace h := Jv h
 obtain ⟨ds, hl, ⟨h1, h2, h3⟩, q⟩ := h
 cases (show v = .ref l from rv)
 obtain ⟨ws, g1, g2⟩ := r.ls l _ hl
 exact ⟨l, i, ws, rfl, ru.int, g1, by omega, h2, by rw [g2.length]; exact h3, fun p hp => k.dat (r.new hp) (Step.new hp) (Dt.VS r hp (g2.rep _)) q⟩
theorem O4 (x y : DV) (M : Mp) (Φ : DK) : R6 x y M Φ = (onO x fun l => onI y fun i => Vg (M l) fun ds => (0 ≤ i ∧ i < 2 ^ 63 ∧ ds.length * i.toNat ≤ sizeLine) ∧ Φ (.dat (.list (List.replicate i.toNat ds).flatten)) M) := propext Iff.rfl
end
end DL
namespace DL
open PySem PySem.Spec PyProof.Rows L2 PySem.W PySem.SeqAt PySem.MeetsSeq
theorem Y5 (a : Int) (t : Tok) (l : Addr) (items : Array Value) (n : Nat) (dd : Option Addr) (sl : Array (Option Value)) :
  Meets (Builtin.«int.__rmul__» ⟨[.int a t, .ref l], []⟩) (fun _ R s => s.heap.get? l = some { cls := .type "tuple", dict := dd, data := .seq items n, slots := sl } ∧ R (.ok (.ret .notImplemented)) s) :=
 .of_wp fun prog w A R s h => by
  obtain ⟨hp, g, d, tk, os⟩ := s; obtain ⟨hl, h⟩ := h
  wp_walk using wpAny_loadPart' hl, wpAny_load hl
  exact ⟨_, rfl, h⟩
theorem D7 (its : List Value) (k : Nat) : List.foldl (fun x1 x2 => x1 ++ x2) #[] (List.replicate k its.toArray) = (List.replicate k its).flatten.toArray := by
 have := foldl_rep its k []
 rw [List.nil_append] at this
 exact this
theorem GO (l : Addr) (its : List Value) (n : Nat) (x : Int) (u : Tok) (dd : Option Addr) (sl : Array (Option Value)) (h2 : 2 ≤ x) (h3 : x ≤ 1000) (he : 1 ≤ its.length) (hz : its.length ≤ 1000) :
  Meets (Builtin.«tuple.__mul__» ⟨[.ref l, .int x u], []⟩) (fun _ R s => s.heap.get? l = some { cls := .type "tuple", dict := dd, data := .seq its.toArray n, slots := sl } ∧
   R (.ok (.ret (.ref s.heap.objs.size))) { s with heap := s.heap.push { cls := .type "tuple", data := .seq (List.replicate x.toNat its).flatten.toArray } }) :=
 .of_wp fun prog w A R s h => by
  obtain ⟨hp, g, d, tk, os⟩ := s; obtain ⟨hl, h⟩ := h
  have he' : its.toArray.isEmpty = false := by
   cases its with
   | nil => exact absurd he (by simp)
   | cons _ _ => rfl
  have hs : its.toArray.size = its.length := List.size_toArray
  have e1 : (decide (x < -2 ^ 63) || decide (x ≥ 2 ^ 63)) = false := by simp; omega
  have e2 : (its.toArray.isEmpty || x == 1) = false := by rw [he']; simp; omega
  have e3 : (decide (x ≤ 0) || its.toArray.isEmpty) = false := by rw [he']; simp; omega
  have hzx : (its.toArray.size : Int) * x ≤ 1000 * 1000 := Int.mul_le_mul (by omega) h3 (by omega) (by decide)
  have e4 : ¬ (its.toArray.size : Int) * x > (2 ^ 63 - 1) / 8 := by omega
  have e5 : ¬ Builtin.Tuple.tupleTooMany ((its.toArray.size : Int) * x) = true := by
   unfold Builtin.Tuple.tupleTooMany
   simp
   simp at hzx
   have := sizeLine_eq
   omega
  have e6 : ¬ (List.foldl (fun x1 x2 => x1 ++ x2) #[] (List.replicate x.toNat its.toArray)).size > sizeLine := by
   rw [D7, List.size_toArray, len_rep, sizeLine_eq]
   have : x.toNat * its.length ≤ 1000 * 1000 := Nat.mul_le_mul (by omega) hz
   omega
  wp_walk using wpAny_loadPart' hl, wpAny_load hl
  rw [if_neg (by rw [e1]; decide)]
  wp_walk using wpAny_loadPart' hl, wpAny_load hl
  rw [if_neg (by rw [e2]; decide)]
  wp_walk using wpAny_loadPart' hl, wpAny_load hl
  rw [if_neg (by rw [e3]; decide)]
  wp_walk using wpAny_loadPart' hl, wpAny_load hl
  rw [if_neg e4]
  wp_walk using wpAny_loadPart' hl, wpAny_load hl
  rw [if_neg e5]
  wp_walk using wpAny_loadPart' hl, wpAny_load hl
  rw [D7]
  exact ⟨_, rfl, h⟩
section
variable {X : Cx}
theorem NJ : OpR X (binaryOp .Mult) (fun x y H Q => ∃ a xs k, x = .ref a ∧ y = .int k ∧ SqT X.K H a xs ∧ (2 ≤ k ∧ k ≤ 1000 ∧ 1 ≤ xs.length ∧ xs.length ≤ 1000) ∧ ∀ p, H p = none → Q (.ref p) (upd H p (.tup (List.replicate k.toNat xs).flatten))) := by
 intro pins s σ H x y v u Q I rx ry h
 obtain ⟨a, xs, k, rfl, rfl, ha, ⟨h1, h2, h3, h4⟩, q⟩ := h
 cases rx
 obtain ⟨t, rfl⟩ := ry
 obtain ⟨its, r1, p1, _⟩ := I.tuple ha
 obtain ⟨⟨cls, dd, data, sl⟩, ho, hc, n, hd⟩ := id p1
 simp only at hc hd
 subst hc hd
 have hl := r1.length
 refine wpAny_binaryOp_repeat_ref (T := "tuple") (U := "int") (by decide) ⟨_, ho, rfl⟩ (fun s' => typeIs_int s' k t) rfl F.fills_int_mul F.slot_int_rmul rfl F.slot_int_index.lookup
  (call_meets F.slot_int_rmul (typeIs_int s k t) F.entry_int_rmul (F.args_int_rmul_2 _ _) (Y5 k t a its.toArray n dd sl)
   ⟨ho, rfl, ⟨_, ho, rfl⟩, call_meets F.slot_tuple_mul ⟨_, ho, rfl⟩ F.entry_tuple_mul (F.args_tuple_mul_2 _ _) (GO a its n k t dd sl h1 h2 (by omega) (by omega)) ⟨ho, ?_⟩⟩)
 refine ⟨.ref s.heap.objs.size, _, I.laid (t' := s.toks) (o := .tup (List.replicate k.toNat xs).flatten) (fun b ob q => Heap.get?_push_of_some _ q) (Nat.le_refl _) ?_, rfl, q _ (I.hok.fresh (Nat.le_refl _))⟩
 refine ⟨?_, _, r1.rep k.toNat, IsTup.new _ _⟩
 rw [len_rep, sizeLine_eq]
 have : k.toNat * xs.length ≤ 1000 * 1000 := Nat.mul_le_mul (by omega) h4
 omega
noncomputable def Mu : D2 := fun x y M Φ => onT x fun ds => onI y fun k => (2 ≤ k ∧ k ≤ 1000 ∧ 1 ≤ ds.length ∧ ds.length ≤ 1000) ∧ Φ (.dat (.tuple (List.replicate k.toNat ds).flatten)) M
theorem O1 : OpD X (binaryOp .Mult) Mu := by
 refine ⟨_, NJ, fun v u H x y M Φ Q r rv ru h k => ?_⟩
 replace h := Vr h
 obtain ⟨ds, rfl, h⟩ := h
 replace h := ZP h
 obtain ⟨i, rfl, ⟨h1, h2, h3, h4⟩, q⟩ := h
 obtain ⟨a, xs, rfl, g1, g2⟩ := rv.tup
 exact ⟨a, xs, i, rfl, ru.int, g1.sq, ⟨h1, h2, by rw [g2.length]; exact h3, by rw [g2.length]; exact h4⟩, fun p hp => k.dat (r.new hp) (Step.new hp) (Dt.Xp r hp (g2.rep _)) q⟩
theorem FV (x y : DV) (M : Mp) (Φ : DK) : Mu x y M Φ = (onT x fun ds => onI y fun k => (2 ≤ k ∧ k ≤ 1000 ∧ 1 ≤ ds.length ∧ ds.length ≤ 1000) ∧ Φ (.dat (.tuple (List.replicate k.toNat ds).flatten)) M) := propext Iff.rfl
theorem Fj : OpR X (binaryOp .Add) (fun x y H Q => ∃ a b xs ys, x = .ref a ∧ y = .ref b ∧ SqT X.K H a xs ∧ SqT X.K H b ys ∧ xs.length + ys.length ≤ sizeLine ∧
  (xs = [] → Q (.ref b) H) ∧ (xs ≠ [] → ys = [] → Q (.ref a) H) ∧ (xs ≠ [] → ys ≠ [] → ∀ p, H p = none → Q (.ref p) (upd H p (.tup (xs ++ ys))))) := by
 intro pins s σ H x y v u Q I rx ry h
 obtain ⟨a, b, xs, ys, rfl, rfl, ha, hb, hz, q0, q1, q2⟩ := h
 by_cases hx : xs = []
 ·cases rx
  cases ry
  obtain ⟨its, r1, p1, _⟩ := I.tuple ha
  obtain ⟨its2, r2, p2, _⟩ := I.tuple hb
  obtain ⟨⟨cls, dd, data, sl⟩, ho, hc, n, hd⟩ := id p1
  obtain ⟨⟨cls2, dd2, data2, sl2⟩, ho2, hc2, n2, hd2⟩ := id p2
  simp only at hc hd hc2 hd2
  subst hc hd hc2 hd2
  have he : its = [] := r1.XB.mpr hx
  exact concat_meets ⟨_, ho, rfl⟩ ⟨_, ho2, rfl⟩ noFill_tuple_add seq_tuple_add PySem.F.slot_tuple_add PySem.F.entry_tuple_add (PySem.F.args_tuple_add_2 _ _)
   (tuple_addW0 a b its.toArray its2.toArray n n2 dd dd2 sl sl2 (by rw [he]; rfl)) ⟨ho, ho2, ⟨.ref b, H, I, rfl, q0 hx⟩⟩
 ·exact OH pins s σ H _ _ v u Q I rx ry ⟨a, b, xs, ys, rfl, rfl, ha, hb, hx, hz, q1 hx, q2 hx⟩
noncomputable def BC : D2 := fun x y M Φ => onT x fun ds => onT y fun es => ds.length + es.length ≤ sizeLine ∧ Φ (.dat (.tuple (ds ++ es))) M
theorem QS : OpD X (binaryOp .Add) BC := by
 refine ⟨_, Fj, fun v u H x y M Φ Q r rv ru h k => ?_⟩
 replace h := Vr h
 obtain ⟨ds, rfl, h⟩ := h
 replace h := Vr h
 obtain ⟨es, rfl, hz, q⟩ := h
 obtain ⟨a, xs, rfl, h1, h2⟩ := id rv.tup
 obtain ⟨b, ys, rfl, h3, h4⟩ := id ru.tup
 refine ⟨a, b, xs, ys, rfl, rfl, h1.sq, h3.sq, by rw [h2.length, h4.length]; exact hz, fun e => ?_, fun e e2 => ?_, fun e e2 p hp => ?_⟩
 ·subst e
  cases h2
  exact k _ _ _ _ r Step.refl ru q
 ·subst e2
  cases h4
  rw [List.append_nil] at q
  exact k _ _ _ _ r Step.refl rv q
 ·exact k.dat (r.new hp) (Step.new hp) (Dt.Xp r hp (h2.append h4)) q
theorem Dh (x y : DV) (M : Mp) (Φ : DK) : BC x y M Φ = (onT x fun ds => onT y fun es => ds.length + es.length ≤ sizeLine ∧ Φ (.dat (.tuple (ds ++ es))) M) := propext Iff.rfl
end
end DL
namespace DL
open PySem PySem.Spec PyProof.Rows L2 PySem.W
noncomputable def Itz (K : PySem.W.Frag) (a b : Addr) : It :=
  ⟨fun i H => ∃ xs ys x y, SqL K H a xs ∧ xs[i]? = some x ∧ SqL K H b ys ∧ ys[i]? = some y,
   fun i H v H' => ∃ T x y, (∀ xs, SqL K H a xs → xs[i]? = some x) ∧ (∀ ys, SqL K H b ys → ys[i]? = some y) ∧ H T = none ∧ v = .ref T ∧ H' = upd H T (.tup [x, y]),
   fun i H => ∃ xs ys, SqL K H a xs ∧ SqL K H b ys ∧ (xs.length ≤ i ∨ ys.length ≤ i)⟩
noncomputable def OA (a b : Addr) (n : Nat) (i : Nat) (h : Heap) : Prop :=
 IsZip h (n + 4) (n + 2) (n + 3) .none ∧ IsPair h (n + 2) (.ref n) (.ref (n + 1)) ∧ (∃ u v, IsPair h (n + 3) u v) ∧ h.IsListIter n a i ∧ h.IsListIter (n + 1) b i
theorem OA.keep {a b : Addr} {n : Nat} {i : Nat} {h h' : Heap} (st : OA a b n i h) (k : ∀ c ∈ [n + 4, n + 2, n + 3, n, n + 1], ∀ o, h.get? c = some o → h'.get? c = some o) : OA a b n i h' := by
 obtain ⟨hz, h2, ⟨u, v, h3⟩, h0, h1⟩ := st
 exact ⟨k _ (by simp) _ hz, k _ (by simp) _ h2, ⟨u, v, k _ (by simp) _ h3⟩, h0.at fun o e => k _ (by simp) o e, h1.at fun o e => k _ (by simp) o e⟩
section
variable {X : Cx}
noncomputable def ZfM (K : PySem.W.Frag) (ta : TA) : TI := fun σ H R => ta σ H fun vs H1 => ∃ a b, vs = [.ref a, .ref b] ∧ (∃ xs, SqL K H1 a xs) ∧ (∃ ys, SqL K H1 b ys) ∧ R (Itz K a b) H1
noncomputable def ZbR (as bs : List PyData) : List PyData := List.zipWith (fun a b => .tuple [a, b]) as bs
noncomputable def ZfW (ta : DTA) : VB := fun Δ M Ψ => ta Δ M fun xs M1 => on2 xs fun x y => onL x fun as => onL y fun bs => Ψ (ZbR as bs) M1
end
end DL
namespace DL
open PySem PySem.Spec PyProof.Rows L2 PySem.W
section
variable {X : Cx} {pos : Pos}
noncomputable abbrev DTP := DSt → Mp → (List (DV × DV) → Mp → Prop) → Prop
noncomputable def DPs (X : Cx) (pos : Pos) (keys : List (Option Expr)) (values : List Expr) (τ : DTP) : Prop :=
 ∃ trs, PPs X pos keys values trs ∧ trs.length = keys.length ∧ ∀ σ H Δ M Φ (Q : List (V × V) → Hp → Prop), ZE X.K M H → QD X.K M H σ Δ → τ Δ M Φ →
  (∀ ps H' qs M', ZE X.K M' H' → Step M H M' H' → Paired (fun (p : V × V) (q : DV × DV) => Qh X.K M' H' p.1 q.1 ∧ Qh X.K M' H' p.2 q.2) ps qs → Φ qs M' → Q ps H') → Gm trs σ H Q
noncomputable def Zfo : DTP := fun _ M Φ => Φ [] M
noncomputable def Zdj (tk tv : DTE) (t : DTP) : DTP := fun Δ M Φ => tk Δ M fun x M1 => tv Δ M1 fun y M2 => t Δ M2 fun qs M3 => Φ ((x, y) :: qs) M3
noncomputable def RL : List (DV × DV) → (List (Key × PyData) → Prop) → Prop
 | [], P => P []
 | (x, y) :: r, P => VU x fun k => onD y fun d => RL r fun l => P ((k, d) :: l)
noncomputable def Zel (t : DTP) : DTE := fun Δ M Φ => ∀ p, M p = none → t Δ (ZF M p (.dkv [])) fun qs M2 => RL qs fun l => M2 p = some (.dkv []) ∧ ((l.map (·.1)).Nodup ∧ l.length ≤ 15) ∧ Φ (.own p) (ZF M2 p (.dkv l))
noncomputable def ZeK (td ti tx : DTE) : DTE := fun Δ M Φ => td Δ M fun x M1 => onO x fun l => XZ (M1 l) fun _ => ti Δ M1 fun y M2 => tx Δ M2 fun z M3 => onS y fun s => onD z fun d => XZ (M3 l) fun ps => Φ (.dat ((QE ps (.inr s)).getD d)) M3
end
end DL
namespace DL
open PySem PySem.Spec PyProof.Rows L2 PySem.W
section
variable {X : Cx} {pins : List (Addr × Obj)} {σ : L2.St} {H : Hp} {s : Shared} {M : Mp}
end
section
variable {X : Cx}
noncomputable def Za6 : D1 := fun xs M Φ => on1 xs fun x => onT x fun ds => ((∀ d ∈ ds, Shw d) ∧ (PyData.tuple ds).depth ≤ 64 ∧ (PyData.tuple ds).shown.length ≤ sizeLine) ∧ Φ (.dat (.str (PyData.tuple ds).shown)) M
end
end DL
namespace DL
open PySem PySem.Spec PyProof.Rows L2
section
variable {X : Cx}
noncomputable def ZfP (τ : DTE) : DTT := fun Δ M Φ => τ Δ M fun x M1 => onQ x M1 fun ds => Φ (!ds.isEmpty) M1
end
end DL
namespace DL
open PySem PySem.Spec PyProof.Rows L2 PySem.W
structure Gives (it l : Addr) (xs : Array Value) (st : Nat → Heap → Prop) : Prop where
 frame : ∀ {i : Nat} {h h' : Heap}, st i h → (∀ b, b = it ∨ b = l → ∀ o, h.get? b = some o → h'.get? b = some o) → st i h'
 live : ∀ {i : Nat} {h : Heap}, st i h → ∃ o, h.get? it = some o
 item : ∀ {prog : Program} {w : World} {A : Around} {E : Value → Shared → Prop} {s : Shared} {Q : Value → Shared → Prop} {i : Nat} {x : Value}, st i s.heap → xs[i]? = some x →
  (∀ h', st (i + 1) h' → Heap.SameBut it s.heap h' → Q x { s with heap := h' }) → wpAny (model prog w) A (Builtin.SmallTypes.nextOf (.ref it)) Q E s
 done : ∀ {prog : Program} {w : World} {A : Around} {E : Value → Shared → Prop} {s : Shared} {Q : Value → Shared → Prop} {i : Nat}, A.handled = none → st i s.heap → xs[i]? = none →
  (∀ h' e, Heap.ExtBut it s.heap h' → (∃ o, h'.get? e = some o ∧ o.cls = .type "StopIteration") → E (.ref e) { s with heap := h' }) → wpAny (model prog w) A (Builtin.SmallTypes.nextOf (.ref it)) Q E s
noncomputable def ZfD (a b c d : Addr) (h h' : Heap) : Prop := ∀ x o, x ≠ a → x ≠ b → x ≠ c → x ≠ d → h.get? x = some o → h'.get? x = some o
section
variable {prog : Program} {w : World} {A : Around} {E : Value → Shared → Prop} {s : Shared} {z TI TO p q l m : Addr} {xs ys : Array Value} {f g : Nat → Heap → Prop} {i j : Nat}
end
noncomputable abbrev zt1 (h : Heap) (l : Addr) : Heap := h.push { cls := .type "tuple_iterator", data := .fields #[.ref l, .int 0 0] }
noncomputable abbrev zt2 (h : Heap) (l m : Addr) : Heap := (zt1 h l).push { cls := .type "list_iterator", data := .fields #[.ref m, .int 0 0] }
noncomputable abbrev zt3 (h : Heap) (l m : Addr) : Heap := (zt2 h l m).push { cls := .type "tuple", data := .seq #[.ref h.objs.size, .ref (zt1 h l).objs.size] }
noncomputable abbrev zt4 (h : Heap) (l m : Addr) : Heap := (zt3 h l m).push { cls := .type "tuple", data := .seq #[.none, .none] }
noncomputable abbrev zt5 (h : Heap) (l m : Addr) : Heap := (zt4 h l m).push { cls := .type "zip", data := .fields #[.none, .bool false, .bool false, .ref (zt2 h l m).objs.size, .ref (zt3 h l m).objs.size] }
section
variable {prog : Program} {w : World} {A : Around} {E : Value → Shared → Prop} {s : Shared}
end
noncomputable def Zd8 (K : PySem.W.Frag) (a b : Addr) : It :=
  ⟨fun i H => ∃ xs ys x y, SqT K H a xs ∧ xs[i]? = some x ∧ SqL K H b ys ∧ ys[i]? = some y,
   fun i H v H' => ∃ T x y, (∀ xs, SqT K H a xs → xs[i]? = some x) ∧ (∀ ys, SqL K H b ys → ys[i]? = some y) ∧ H T = none ∧ v = .ref T ∧ H' = upd H T (.tup [x, y]),
   fun i H => ∃ xs ys, SqT K H a xs ∧ SqL K H b ys ∧ (xs.length ≤ i ∨ ys.length ≤ i)⟩
noncomputable def Zgl (a b : Addr) (n : Nat) (i : Nat) (h : Heap) : Prop :=
 IsZip h (n + 4) (n + 2) (n + 3) .none ∧ IsPair h (n + 2) (.ref n) (.ref (n + 1)) ∧ (∃ u v, IsPair h (n + 3) u v) ∧ h.IsTupleIter n a i ∧ h.IsListIter (n + 1) b i
section
variable {X : Cx}
noncomputable def Zfv (K : PySem.W.Frag) (ta : TA) : TI := fun σ H R => ta σ H fun vs H1 => ∃ a b, vs = [.ref a, .ref b] ∧ (∃ xs, SqT K H1 a xs) ∧ (∃ ys, SqL K H1 b ys) ∧ R (Zd8 K a b) H1
noncomputable def Zfg (ta : DTA) : VB := fun Δ M Ψ => ta Δ M fun xs M1 => on2 xs fun x y => onT x fun as => onL y fun bs => Ψ (ZbR as bs) M1
end
end DL
namespace DL
open PySem PySem.Spec PyProof.Rows L2 PySem.W
section
variable {X : Cx} {tg iter : Expr} {g : DTG} {tb : DTS} {body : List Stmt} {pos : Pos}
noncomputable def Zeh (src : VB) (g : DTG) (tb : DTS) : DTS := fun D Δ M => src Δ M fun ds M1 => CB g tb D ds Δ M1
noncomputable def Zdu (K : PySem.W.Frag) : V → List V → Hp → VK → Prop := fun x vs H Q => ∃ (l : Addr) (ss : List Str) (t : Str), x = .ref l ∧ vs = [V.str t] ∧ SqL K H l (List.map V.str ss) ∧ t ∈ ss ∧ Q (.int (ss.idxOf t : Nat)) H
noncomputable def Ga (ds : List PyData) (P : List Str → Prop) : Prop := ∃ ss, ds = ss.map PyData.str ∧ P ss
noncomputable def Zgh (to te : DTE) : DTE := fun Δ M Φ => to Δ M fun x M1 => onL x fun ds => te Δ M1 fun y M2 => onS y fun t => Ga ds fun ss => t ∈ ss ∧ Φ (.dat (.int (ss.idxOf t : Nat))) M2
noncomputable def SU (x : DV) (P : List PyData → Prop) : Prop := match x with | .dat (.tuple ds) => P ds | .dat (.list ds) => P ds | _ => False
theorem Hu (ds : List PyData) (P : List PyData → Prop) : SU (.dat (.tuple ds)) P = P ds := propext Iff.rfl
theorem Hv (ds : List PyData) (P : List PyData → Prop) : SU (.dat (.list ds)) P = P ds := propext Iff.rfl
noncomputable def iTL (K : PySem.W.Frag) (tl : TE) : TI := fun σ H R => tl σ H fun x H1 => ∃ a, x = .ref a ∧ (((∃ xs, SqL K H1 a xs) ∧ R (Itl K a) H1) ∨ (∃ xs, SqT K H1 a xs) ∧ R (Itt K a) H1)
theorem Za5 {tl : TE} (hl : PE X iter tl) : PI X tg iter (iTL X.K tl) := by
 intro pins s σ H R I h
 refine thn (hl pins s σ H _ I h) fun v s1 ⟨x, H1, I1, r1, q1⟩ => ?_
 obtain ⟨a, e, q⟩ := q1
 subst e
 cases r1
 have fp : ∀ b ∈ [s1.heap.objs.size], WL X pins H1 b := fun b hb => by
  rw [List.mem_singleton.mp hb]
  exact I1.OY (Nat.le_refl _) (I1.hok.fresh (Nat.le_refl _))
 have IP : ∀ o : Obj, L2.Inv X pins σ H1 { s1 with heap := s1.heap.push o, toks := s1.toks } := fun o => I1.kept (t' := s1.toks) fun b o e => Heap.get?_push_of_some _ e
 rcases q with ⟨⟨xs, hq⟩, q⟩ | ⟨⟨xs, hq⟩, q⟩
 ·obtain ⟨its, rv, p, hz⟩ := I1.list hq
  exact wpAny_pyIter_list p.isList ⟨s1.heap.objs.size, _, _, _, H1, rfl, IP _, KI a _, ⟨_, Heap.get?_push_size _ rfl, rfl, rfl⟩, fp, q⟩
 ·obtain ⟨its, rv, p, hz⟩ := I1.tuple hq
  exact wpAny_pyIter_tuple (show s1.heap.IsTuple a its.toArray from p) ⟨s1.heap.objs.size, _, _, _, H1, rfl, IP _, Xk a _, ⟨_, Heap.get?_push_size _ rfl, rfl, rfl⟩, fp, q⟩
noncomputable def S1 (te : DTE) : VB := fun Δ M Ψ => te Δ M fun x M1 => SU x fun ds => Ψ ds M1
theorem Ng (te : DTE) (Δ : DSt) (M : Mp) (Ψ : List PyData → Mp → Prop) : S1 te Δ M Ψ = (te Δ M fun x M1 => SU x fun ds => Ψ ds M1) := propext Iff.rfl
theorem Tf {te : DTE} (he : DE X iter te) : DI X tg iter (S1 te) := by
 obtain ⟨t, p, q⟩ := he
 refine ⟨_, Za5 p, fun σ H Δ M Ψ R dr er h k => ?_⟩
 refine q σ H Δ M _ _ dr er h fun v H1 x M1 r1 st rv hx => ?_
 have two : ∃ ds, (x = .dat (.tuple ds) ∨ x = .dat (.list ds)) ∧ Ψ ds M1 := by
  unfold SU at hx
  split at hx
  ·exact ⟨_, .inl rfl, hx⟩
  ·exact ⟨_, .inr rfl, hx⟩
  ·exact hx.elim
 obtain ⟨ds, rfl | rfl, hΨ⟩ := two
 ·obtain ⟨a, xs, rfl, h1, h2⟩ := rv.tup
  refine ⟨a, rfl, .inr ⟨⟨xs, h1.sq⟩, k _ H1 M1 ds r1 st (fun M2 H2 st2 i => ⟨fun hi => ?_, fun hi => ⟨xs, (h1.step st2).sq, by rw [h2.length]; exact hi⟩⟩) hΨ⟩⟩
  have hx : i < xs.length := by rw [h2.length]; exact hi
  refine ⟨⟨xs, xs[i], (h1.step st2).sq, by simp [hx]⟩, fun x H' ⟨e, y⟩ => ?_⟩
  obtain ⟨d, hd, hy⟩ := (h2.step st2).Zab (y xs (h1.step st2).sq)
  subst e
  exact fun r => ⟨r, Step.refl, d, hd, hy⟩
 ·obtain ⟨a, xs, rfl, h1, h2⟩ := rv.lst
  refine ⟨a, rfl, .inl ⟨⟨xs, h1.sq⟩, k _ H1 M1 ds r1 st (fun M2 H2 st2 i => ⟨fun hi => ?_, fun hi => ⟨xs, (h1.step st2).sq, by rw [h2.length]; exact hi⟩⟩) hΨ⟩⟩
  have hx : i < xs.length := by rw [h2.length]; exact hi
  refine ⟨⟨xs, xs[i], (h1.step st2).sq, by simp [hx]⟩, fun x H' ⟨e, y⟩ => ?_⟩
  obtain ⟨d, hd, hy⟩ := (h2.step st2).Zab (y xs (h1.step st2).sq)
  subst e
  exact fun r => ⟨r, Step.refl, d, hd, hy⟩
end
end DL
namespace DL
open PySem PySem.Spec PyProof.Rows L2
noncomputable def Zcd (X : Cx) (scope : Scope) (k : Str) (C : Addr) (N : List Str) (ex : List Addr) (s : Shared) (H : Hp) : Cx :=
 { X with N := N, s₀ := s, H₀ := H, env := compEnvC scope ((k, C + 1) :: UK X.env scope.names []) C X.env, outer := X.stack, ex := ex, fn := fun x => x == k, pn := [], xe := fun _ _ => False }
structure Zcw (X : Cx) (scope : Scope) (k : Str) (N : List Str) (ix : List (Option Nat)) : Prop where
 kind : scope.kind = .function
 cf : ∀ n cl, cellsFrom n scope.names cl = (k, n) :: cl
 pc : ∀ h, pushCells h scope.names = h.push { cls := .type "cell", data := .cell none }
 cellK : ∀ y ∈ scope.names, y.2 = .cell → y.1 = k
 nk : ∀ y ∈ scope.names, y.2 = .free → y.1 ≠ k
 names : ∀ y ∈ scope.names, y.2 = .local → scope.names.lookup y.1 = some .local
 free : ∀ y ∈ scope.names, y.2 = .free → X.env.kindOf y.1 = some .cell
 len : N.length = ix.length
 cap : ∀ (j : Nat) (x : Str) (i : Nat), N[j]? = some x → ix[j]? = some (some i) → X.N[i]? = some x ∧ (x, NameKind.free) ∈ scope.names ∧ (relabel scope X.env).names.lookup x = some .cell
section
variable {X : Cx} {pins : List (Addr × Obj)} {σ : L2.St} {H2 : Hp} {s2 : Shared} {scope : Scope} {k : Str} {N : List Str} {ix : List (Option Nat)} {C : Addr} {fp : List Addr}
end
section
variable {X : Cx}
set_option maxHeartbeats 2000000 in
end
end DL
namespace DL
open PySem PySem.Spec PyProof.Rows L2 PySem.W
noncomputable def ZcR (o : Option OO) (P : List (Key × DV) → Prop) : Prop := match o with | some (.dko ps) => P ps | _ => False
noncomputable def ZbM (ps : List (Key × DV)) (k : Key) : Option DV := (ps.find? fun p => decide (p.1 = k)).map (·.2)
noncomputable def ZbB (ps : List (Key × DV)) (k : Key) (x : DV) : List (Key × DV) := if (ps.any fun p => decide (p.1 = k)) = true then ps.map (fun p => if p.1 = k then (p.1, x) else p) else ps ++ [(k, x)]
section
variable {K : PySem.W.Frag} {M : Mp} {H : Hp}
noncomputable abbrev KO (K : PySem.W.Frag) (M : Mp) (H : Hp) : List (Key × V) → List (Key × DV) → Prop := Paired fun (p : Key × V) (q : Key × DV) => p.1 = q.1 ∧ VR0 K M H p.2 q.2
theorem Qh.zero {v : V} {x : DV} (h : Qh K M H v x) (n : ∀ t, x ≠ .ty t) : VR0 K M H v x := by
 cases x with
 | dat d => exact h
 | own b => exact h
 | ty t => exact absurd rfl (n t)
 | mix xs => exact h
end
section
variable {X : Cx} {o i value : Expr} {td ti tv : DTE} {pos pos' : Pos}
noncomputable def Pq (x : DV) (P : Prop) : Prop := match x with | .ty _ => False | _ => P
noncomputable def ZeX (td ti tv : DTE) : DTS := fun D Δ M => tv Δ M fun x M1 => td Δ M1 fun y M2 => ti Δ M2 fun z M3 => Pq x (onO y fun l => onS z fun s => ZcR (M3 l) fun ps => ps.length < sizeLine ∧ D.nx Δ (ZF M3 l (.dko (ZbB ps (.inr s) x))))
noncomputable def Zes (td ti : DTE) : DTE := fun Δ M Φ => td Δ M fun x M1 => ti Δ M1 fun y M2 => onO x fun l => onS y fun s => ZcR (M2 l) fun ps => ∃ z, ZbM ps (.inr s) = some z ∧ Φ z M2
noncomputable def S3 : List (DV × DV) → (List (Key × DV) → Prop) → Prop
 | [], P => P []
 | (x, y) :: r, P => VU x fun k => Pq y (S3 r fun l => P ((k, y) :: l))
noncomputable def Zd0 (t : DTP) : DTE := fun Δ M Φ => ∀ p, M p = none → t Δ (ZF M p (.dko [])) fun qs M2 => S3 qs fun l => M2 p = some (.dko []) ∧ ((l.map (·.1)).Nodup ∧ l.length ≤ 15) ∧ Φ (.own p) (ZF M2 p (.dko l))
end
end DL
namespace DL
open PySem PySem.Spec PyProof.Rows L2 PySem.W
section
open PySem.SeqAt
open PySem.AutoSeq1 (wpAny_loadPart')
open PySem.MeetsSeq PySem.MeetsSeq2 PySem.MeetsSeq3
variable {prog : Program} {w : World} {A : Around} {E : Value → Shared → Prop} {s : Shared}
end
noncomputable def ZaI : PyData → Option (Int × Str)
 | .tuple [.int i, .tuple (.str s :: _)] => some (i, s)
 | _ => none
noncomputable def Zfz (ks : List (Int × Str)) (i j : Nat) : Bool := decide ((ks.getD i (0, Str.empty)).1 < (ks.getD j (0, Str.empty)).1 ∨ (ks.getD i (0, Str.empty)).1 = (ks.getD j (0, Str.empty)).1 ∧ (ks.getD i (0, Str.empty)).2.cps.toList < (ks.getD j (0, Str.empty)).2.cps.toList)
section
variable {X : Cx}
noncomputable def ZdE (K : PySem.W.Frag) : List V → Hp → VK → Prop := fun xs H Q => ∃ (p : Addr) (M : Mp) (vs : List V) (ds : List PyData) (ks : List (Int × Str)), xs = [.ref p] ∧ SqL K H p vs ∧ Dts K M H vs ds ∧ ds.map ZaI = ks.map some ∧ ks.Nodup ∧ ds.length < 64 ∧
 ∀ q, Pm ds.length q → Up (Zfz ks) q ds.length → ∀ l, H l = none → Q (.ref l) (upd H l (.lst (q.toList.map fun i => vs.getD i .non)))
noncomputable def Zep (a b : PyData) : Prop := ∀ s t, ZaI a = some s → ZaI b = some t → ¬ (t.1 < s.1 ∨ t.1 = s.1 ∧ t.2.cps.toList < s.2.cps.toList)
noncomputable def Zbf : D1 := fun xs M Φ => on1 xs fun x => onK x M fun ds => ∃ ks : List (Int × Str), ds.map ZaI = ks.map some ∧ ks.Nodup ∧ ds.length < 64 ∧ ∀ ds' : List PyData, ds'.Perm ds → ds'.Pairwise Zep → Φ (.dat (.list ds')) M
noncomputable def Zbs : D1 := fun xs M Φ => on1 xs fun x => onK x M fun ds => Ga ds fun ss => ss.length < 64 ∧ ∀ ss' : List Str, ss'.Perm ss → sortedS ss' = true → Φ (.dat (.list (ss'.map PyData.str))) M
end
end DL
namespace DL
open PySem PySem.Spec PyProof.Rows L2 PySem.W
theorem Step.all {M : Mp} {H : Hp} : Step M H (fun _ => none) H := ⟨fun _ _ _ h => h, fun _ _ _ _ => rfl⟩
noncomputable def ME (x : DV) (M : Mp) (P : PyData → Prop) : Prop := match x with | .dat d => P d | .own q => Vg (M q) (fun ds => P (.list ds)) | _ => False
section
variable {X : Cx}
theorem Nj {M : Mp} {H : Hp} {v : V} {x : DV} {P : PyData → Prop} (h : ME x M P) (r : ZE X.K M H) (rv : Qh X.K M H v x) : ∃ d, Dt X.K (fun _ => none) H v d ∧ P d := by
 cases x with
 | dat d => exact ⟨d, Dt.step Step.all rv, h⟩
 | own q =>
  have h : Vg (M q) (fun ds => P (.list ds)) := h
  replace h := Jv h
  obtain ⟨ds, hm, h⟩ := h
  cases (show v = .ref q from rv)
  obtain ⟨vs, g1, g2⟩ := r.ls q ds hm
  exact ⟨.list ds, .lst (.inl ⟨rfl, .inl g1⟩) (g2.step Step.all), h⟩
 | ty t => exact h.elim
 | mix xs => exact h.elim
noncomputable def ZeE : D2 := fun x y M Φ => ME x M fun d => ME y M fun e => Oc d e = true ∧ Φ (.dat (.bool (PyData.eqv d e))) M
noncomputable def ZeI : D2 := fun x y M Φ => ME x M fun d => ME y M fun e => Oc d e = true ∧ Φ (.dat (.bool (!PyData.eqv d e))) M
noncomputable def Zbv : D1 := fun xs M Φ => on1 xs fun x => ME x M fun d => Shw d ∧ Φ (.dat (.str d.shown)) M
noncomputable def Zc0 (T : String) : D1 := fun xs M Φ => match xs with | [x, .ty t] => t = T ∧ ME x M fun d => Φ (.dat (.bool (ZD T d))) M | _ => False
theorem Dj : QO X (.builtin "isinstance") (fun xs H Q => ∃ v d M T U p b, xs = [v, .ref p] ∧ Dt X.K M H v d ∧ H p = some (.tup [.ty T, .ty U]) ∧ PySem.W.kitAny X.K (.type (tyN d)) [.type T, .type U] = some b ∧ Q (.bl b) H) := by
 intro pins s σ H xs us Q I r h
 obtain ⟨v, d, M, T, U, p, b, rfl, hd, hp, e, q⟩ := h
 obtain ⟨u, w', rfl, ru, rt⟩ := vals2 r
 cases (show w' = Value.ref p from rt)
 have fin : ∀ tk, EP X pins σ Q (.bool b) { s with toks := tk } := fun tk => ⟨.bl b, H, I.tok tk, rfl, q⟩
 obtain ⟨its, rv, ⟨⟨cls, dd, data, sl⟩, ho, hc, n, hda⟩, _⟩ := I.tuple (.inl (.inl hp))
 simp only at hc hda
 subst hc hda
 have ei : its = [.type T, .type U] := by
  cases rv with
  | cons a1 a2 =>
   cases a2 with
   | cons a2 a3 =>
    cases a3
    rw [show _ = Value.type T from a1, show _ = Value.type U from a2]
 subst ei
 cases hd with
 | non => cases ru; exact PySem.W.kia_tup PySem.W.kitx_none I.kIn True.intro ho e (fun z => nomatch z) fin
 | bl y => cases ru; exact PySem.W.kia_tup PySem.W.kitx_bool I.kIn True.intro ho e (fun z => nomatch z) fin
 | int i => obtain ⟨t, rfl⟩ := ru; exact PySem.W.kia_tup PySem.W.kitx_int I.kIn True.intro ho e (fun z => nomatch z) fin
 | str y => obtain ⟨t, rfl⟩ := ru; exact PySem.W.kia_tup PySem.W.kitx_str I.kIn True.intro ho e (fun z => nomatch z) fin
 | tup h1 _ =>
  cases ru
  obtain ⟨_, _, ⟨o, hq, hc, _⟩, _⟩ := I.tuple h1.sq
  exact PySem.W.kia_tup PySem.W.kitx_tuple I.kIn ⟨o, hq, hc⟩ ho e (fun z => nomatch z) fin
 | lst h1 _ =>
  cases ru
  obtain ⟨_, _, ⟨o, n, hq, hc, _⟩, _⟩ := I.list h1.sq
  exact PySem.W.kia_tup PySem.W.kitx_list I.kIn ⟨o, hq, hc⟩ ho e (fun z => nomatch z) fin
 | dK _ h1 _ =>
  cases ru
  obtain ⟨_, _, vs, _, p⟩ := (show Qb X.prog X.w H s.heap _ (.dK _) from I.hok _ _ h1)
  obtain ⟨o, es, ep, g1, g2, _⟩ := p
  exact PySem.W.kia_tup PySem.W.kitx_dict I.kIn ⟨o, g1, g2.1⟩ ho e (fun z => nomatch z) fin
 | dT _ h1 _ _ =>
  cases ru
  obtain ⟨_, _, xs, _, o, es, ep, g1, g2, _⟩ := (show Qb X.prog X.w H s.heap _ (.dT _) from I.hok _ _ h1)
  exact PySem.W.kia_tup PySem.W.kitx_dict I.kIn ⟨o, g1, g2.1⟩ ho e (fun z => nomatch z) fin
 | dX _ h1 _ h3 _ _ =>
  cases ru
  obtain ⟨hφ, _⟩ := (show Qb X.prog X.w H s.heap _ (.ext _) from I.hok _ _ h1)
  obtain ⟨o, es, n, u, hq, hc, _⟩ := h3 s.heap hφ
  exact PySem.W.kia_tup PySem.W.kitx_dict I.kIn ⟨o, hq, hc⟩ ho e (fun z => nomatch z) fin
theorem T1 (K : PySem.W.Frag) (d : PyData) : PySem.W.kitAny K (.type (tyN d)) [.type "list", .type "tuple"] = some (ZD "list" d || ZD "tuple" d) := by cases d <;> rfl
noncomputable def Zcn (te : DTE) : DTE := fun Δ M Φ => te Δ M fun x M1 => ME x M1 fun d => Φ (.dat (.bool (ZD "list" d || ZD "tuple" d))) M1
theorem Ny {e : Expr} {te : DTE} {x1 : Nat} {p p1 p2 pt pos : Pos} (hg : Gl X "isinstance") (hm : X.mg "isinstance" = none) (hv : bootBuiltins "isinstance" = some (.builtin "isinstance")) (hgl : Gl X "list") (hml : X.mg "list" = none) (hvl : bootBuiltins "list" = some (.type "list"))
  (hgt : Gl X "tuple") (hmt : X.mg "tuple" = none) (hvt : bootBuiltins "tuple" = some (.type "tuple")) (he : DE X e te)
  (hs : starEach [e, .Tuple [.Name "list" p1, .Name "tuple" p2] x1 pt] X.env = (false, eval e X.env) :: starEach [.Tuple [.Name "list" p1, .Name "tuple" p2] x1 pt] X.env := by rfl)
  (hs2 : starEach [.Tuple [.Name "list" p1, .Name "tuple" p2] x1 pt] X.env = (false, eval (.Tuple [.Name "list" p1, .Name "tuple" p2] x1 pt) X.env) :: starEach [] X.env := by rfl)
  (hs3 : starEach [.Name "list" p1, .Name "tuple" p2] X.env = (false, eval (.Name "list" p1) X.env) :: starEach [.Name "tuple" p2] X.env := by rfl)
  (hs4 : starEach [.Name "tuple" p2] X.env = (false, eval (.Name "tuple" p2) X.env) :: starEach [] X.env := by rfl)
  (hpl : (backTo pos (starEach [.Tuple [.Name "list" p1, .Name "tuple" p2] x1 pt] X.env)).any (·.1) = false := by rfl) :
  DE X (.Call (.Name "isinstance" p) [e, .Tuple [.Name "list" p1, .Name "tuple" p2] x1 pt] [] pos) (Zcn te) := by
 obtain ⟨t0, p0, q0⟩ := he
 have L := U1 (v := V.ty "list") (pos := p1) hgl hml hvl rfl (by decide) (by decide)
 have U := U1 (v := V.ty "tuple") (pos := p2) hgt hmt hvt rfl (by decide) (by decide)
 refine ⟨_, XH Dj hg hm hv (Jg p0 (Jg (BN (Jg L (Jg U Xf hs4) hs3)) Xf hs2) hs) (by decide) (by decide) hs hpl, fun σ H Δ M Φ Q r e h k => ?_⟩
 refine q0 σ H Δ M _ _ r e h fun v H1 x M1 r1 st rv hx => ?_
 obtain ⟨d, hd, q⟩ := Nj hx r1 rv
 refine ⟨by rw [sizeLine_eq]; show 2 ≤ 16777216; decide, fun a ha => ?_⟩
 have sn : Step (fun _ => none) H1 (fun _ => none) (upd H1 a (.tup [V.ty "list", V.ty "tuple"])) := Step.new ha
 exact ⟨v, d, _, "list", "tuple", a, _, rfl, Dt.step sn hd, ZT, T1 _ d, k.dat (r1.new ha) (st.trans (Step.new ha)) (Dt.bl _) q⟩
end
end DL
namespace DL
open PySem PySem.Spec PyProof.Rows L2
noncomputable def YlG (K : PySem.W.Frag) (J : It) (ds : List PyData) (G : Mp → Prop) (M : Mp) (H : Hp) : Prop := ∀ M2 H2, Step M H M2 H2 → ZE K M2 H2 → G M2 → ∀ i,
 (i < ds.length → J.go i H2 ∧ ∀ x H', J.yld i H2 x H' → ZE K M2 H2 → ZE K M2 H' ∧ Step M2 H2 M2 H' ∧ ∃ d, ds[i]? = some d ∧ Dt K M2 H' x d) ∧ (ds.length ≤ i → J.stop i H2)
noncomputable abbrev CC := DSt → Mp → (List PyData → (Mp → Prop) → Mp → Prop) → Prop
noncomputable def DIG (X : Cx) (tg iter : Expr) (src : CC) : Prop := ∃ wi, PI X tg iter wi ∧ ∀ σ H Δ M Ψ (R : It → Hp → Prop), ZE X.K M H → QD X.K M H σ Δ → src Δ M Ψ →
 (∀ J H' M' ds G, ZE X.K M' H' → Step M H M' H' → YlG X.K J ds G M' H' → Ψ ds G M' → R J H') → wi σ H R
section
variable {X : Cx}
noncomputable abbrev ZaO (ds : List PyData) (G : Mp → Prop) (M1 : Mp) (Δ : DSt) (ix : List (Option Nat)) (g : DTG) (tc : DTT) (te : DTE) (ψ : List PyData → Mp → Prop) : Prop := ds.length ≤ sizeLine ∧ ∃ J : Nat → List PyData → Mp → Prop, (∀ i acc M', J i acc M' → G M') ∧ J 0 [] M1 ∧
 (∀ i d acc M', ds[i]? = some d → J i acc M' → g (.dat d) (WM ix Δ) M' fun Δ2 M2 => tc Δ2 M2 fun b M3 => if b = true then te Δ2 M3 fun y M4 => onD y fun e => J (i + 1) (acc ++ [e]) M4 else J (i + 1) acc M3) ∧ ∀ acc M', J ds.length acc M' → ψ acc M'
set_option maxHeartbeats 2000000 in
noncomputable def ZdL (ow : Bool) (src : CC) (ix : List (Option Nat)) (g : DTG) (tc : DTT) (te : DTE) : DTE := fun Δ M Φ => src Δ M fun ds G M1 => ds.length ≤ sizeLine ∧ ∃ J : Nat → List PyData → Mp → Prop, (∀ i acc M', J i acc M' → G M') ∧ J 0 [] M1 ∧
 (∀ i d acc M', ds[i]? = some d → J i acc M' → g (.dat d) (WM ix Δ) M' fun Δ2 M2 => tc Δ2 M2 fun b M3 => if b = true then te Δ2 M3 fun y M4 => onD y fun e => J (i + 1) (acc ++ [e]) M4 else J (i + 1) acc M3) ∧ ∀ acc M', J ds.length acc M' → Uh ow Φ acc M'
noncomputable def Zfw (ta : DTA) : CC := fun Δ M Ψ => ta Δ M fun xs M1 => on2 xs fun x y => onK x M1 fun as => onL y fun bs => Ψ (ZbR as bs) (fun M2 => onK x M2 fun cs => cs = as) M1
end
end DL
namespace DL
open PySem PySem.Spec PyProof.Rows L2
section
variable {X : Cx}
noncomputable def ZaH : D1 := fun xs M Φ => on1 xs fun x => onK x M fun ds => Ga ds fun ss => ss.length < 64 ∧ ∀ ss' : List Str, ss'.Perm ss → sortedS ss' = true → ∀ p, M p = none → Φ (.own p) (ZF M p (.lst (ss'.map PyData.str)))
end
end DL
namespace DL
open PySem PySem.Spec PyProof.Rows L2 PySem.W
noncomputable def ZdI (x : DV) (M : Mp) (P : List PyData → Prop) : Prop := match x with | .dat (.list ds) => P ds | .own q => Vg (M q) P | _ => False
section
variable {X : Cx}
noncomputable def Zff : D2 := fun x y M Φ => onD x fun d => ZdI y M fun ds => okIn d ds = true ∧ Φ (.dat (.bool (ds.any fun e => PyData.eqv e d))) M
noncomputable def ZaP : D2 := fun x y M Φ => onD x fun d => ZdI y M fun ds => okIn d ds = true ∧ Φ (.dat (.bool (!(ds.any fun e => PyData.eqv e d)))) M
noncomputable def Zew (i : Nat) (t : DTS) : DTS := fun D Δ M => onV Δ[i]? fun x => onO x fun l => Vg (M l) fun ds => t D (Δ.set i (some (.dat (.list ds)))) (V5 M l)
end
end DL
namespace DL
open PySem PySem.Spec PyProof.Rows L2 PySem.W
noncomputable def Itd (o : Obj) (a : Addr) (ks : List Key) : It :=
 ⟨fun i H => i < ks.length ∧ ∃ kvs, H a = some (.frz o (.dK kvs)) ∧ kvs.map (·.1) = ks, fun i H x H' => H' = H ∧ ∃ k, ks[i]? = some k ∧ x = kV k,
  fun i H => ks.length ≤ i ∧ ∃ kvs, H a = some (.frz o (.dK kvs)) ∧ kvs.map (·.1) = ks⟩
noncomputable def Zem (o : Obj) (a it : Addr) (n : Nat) (i : Nat) (h : Heap) : Prop := ∃ es ep, o.data = .dict es ep ∧ h.IsKeyIter it a i n ep
section
variable {X : Cx} {tg l : Expr} {tl : TE}
noncomputable def Zey (tl : TE) : TI := fun σ H R => tl σ H fun x H1 => ∃ a kvs, x = .ref a ∧ ((H1 a = some (.dK kvs) ∧ ∀ o, R (Itd o a (kvs.map (·.1))) (upd H1 a (.frz o (.dK kvs)))) ∨ ∃ o, H1 a = some (.frz o (.dK kvs)) ∧ R (Itd o a (kvs.map (·.1))) H1)
end
noncomputable def Zeu (o : Option OO) (P : List (Key × PyData) → Prop) (Q : Obj → List (Key × PyData) → Prop) : Prop := match o with | some (.dkv ps) => P ps | some (.fdk o ps) => Q o ps | _ => False
section
variable {X : Cx} {tg iter : Expr} {te : DTE} {g : DTG} {tb : DTS} {body : List Stmt} {pos : Pos}
noncomputable def Zfk (te : DTE) : CC := fun Δ M Ψ => te Δ M fun x M1 => onO x fun l => Zeu (M1 l) (fun ps => ∀ o, Ψ (ps.map fun p => kD p.1) (fun M2 => M2 l = some (.fdk o ps)) (ZF M1 l (.fdk o ps))) fun o ps => Ψ (ps.map fun p => kD p.1) (fun M2 => M2 l = some (.fdk o ps)) M1
noncomputable def P2 (G : Mp → Prop) (g : DTG) (tb : DTS) (D : Qf) (ds : List PyData) (Δ : DSt) (M : Mp) : Prop :=
 ∃ J : Nat → DSt → Mp → Prop, (∀ i Δ M, J i Δ M → G M) ∧ J 0 Δ M ∧ (∀ i d Δ M, ds[i]? = some d → J i Δ M → g (.dat d) Δ M fun Δ2 M2 => tb { D with nx := J (i + 1), ct := J (i + 1), bk := D.nx } Δ2 M2) ∧ ∀ Δ M, J ds.length Δ M → D.nx Δ M
noncomputable def Ze0 (src : CC) (g : DTG) (tb : DTS) : DTS := fun D Δ M => src Δ M fun ds G M1 => P2 G g tb D ds Δ M1
end
noncomputable def Zc3 (o : Option OO) (P : List (Key × PyData) → Prop) : Prop := match o with | some (.dkv ps) => P ps | some (.fdk _ ps) => P ps | _ => False
section
variable {X : Cx} {o i : Expr} {td ti : DTE} {pos : Pos}
noncomputable def Zfq (td ti : DTE) : DTE := fun Δ M Φ => td Δ M fun x M1 => ti Δ M1 fun y M2 => onO x fun l => onS y fun s => Zc3 (M2 l) fun ps => ∃ d, QE ps (.inr s) = some d ∧ Φ (.dat d) M2
noncomputable def Zdv : D1 := fun xs M Φ => on1 xs fun x => onO x fun l => Zc3 (M l) fun ps => Φ (.dat (.int ps.length)) M
end
end DL
namespace DL
open PySem PySem.Spec PyProof.Rows L2 PySem.W Builtin Builtin.Str
section
variable {X : Cx}
noncomputable def ZdN : V → List V → Hp → VK → Prop := fun x xs H Q => ∃ z y, x = .str z ∧ xs = [.str y] ∧ (y.length == 0) = false ∧ z.length ≤ 10000000 ∧ ∀ l, H l = none → Q (.ref l) (upd H l (.lst ((Txt.split z y).map V.str)))
noncomputable def Zd2 (to te : DTE) : DTE := fun Δ M Φ => to Δ M fun x M1 => onS x fun z => te Δ M1 fun y M2 => onS y fun w => ((w.length == 0) = false ∧ z.length ≤ 10000000) ∧ Φ (.dat (.list ((Txt.split z w).map PyData.str))) M2
noncomputable def ZbK : V → List V → Hp → VK → Prop := fun x xs H Q => ∃ z y, x = .str z ∧ xs = [.str y] ∧ Q (.bl (Txt.startswith z y)) H
noncomputable def ZcA (to te : DTE) : DTE := fun Δ M Φ => to Δ M fun x M1 => onS x fun z => te Δ M1 fun y M2 => onS y fun w => Φ (.dat (.bool (Txt.startswith z w))) M2
noncomputable def ZdZ : D1 := fun xs M Φ => on1 xs fun x => onS x fun z => ∃ n, PySem.intText? z = some n ∧ z.length ≤ 640 ∧ Φ (.dat (.int n)) M
section
variable {a b : Expr} {rest : List Expr} {ta tb : DTE} {pos : Pos}
noncomputable def ZfE (ta tb : DTE) : DTE := fun Δ M Φ => ta Δ M fun x M1 => onS x fun z => z.length ≤ 1000 ∧ if z.length = 0 then tb Δ M1 Φ else Φ (.dat (.str z)) M1
end
noncomputable def ZaB (to : DTE) : DTE := fun Δ M Φ => to Δ M fun x M1 => onO x fun l => Vg (M1 l) fun ds => Φ (.dat .none) (ZF M1 l (.lst ds.reverse))
noncomputable def ZdM : DTS := fun _ _ _ => False
end
end DL
namespace DL
open PySem PySem.Spec PyProof.Rows L2 PySem.W
theorem Paired.atI {α β : Type} {F : α → β → Prop} {l : List α} {m : List β} {i : Int} {b : β} (h : Paired F l m) (e : L2.atI m i = some b) : ∃ a, L2.atI l i = some a ∧ F a b := by
 unfold L2.atI at e ⊢
 rw [Paired.length h]
 cases q : ixN m.length i with
 | none => rw [q] at e; cases e
 | some j =>
  rw [q] at e
  exact Paired.Za7 h e
theorem Paired.app {α β : Type} {F : α → β → Prop} : ∀ {l l' : List α} {m m' : List β}, Paired F l m → Paired F l' m' → Paired F (l ++ l') (m ++ m')
 | _, _, _, _, .nil, h => h
 | _, _, _, _, .cons h1 h2, h => .cons h1 (Paired.app h2 h)
section
variable {K : PySem.W.Frag} {M M' : Mp} {H H' : Hp}
theorem ZE.lv (r : ZE K M H) {a : Addr} {n : Nat} {xs : List DV} (h : M a = some (.lsv n xs)) : ∃ vs, H a = some (.lst vs) ∧ Paired (VR0 K M H) vs xs := r.ok a _ h
theorem Mxs.of : ∀ {vs : List V} {xs : List DV}, Paired (VR0 K M H) vs xs → Mxs K M H vs xs
 | _, _, .nil => .nil
 | _, .dat d :: _, .cons h1 h2 => .dat h1 (Mxs.of h2)
 | _, .own b :: _, .cons h1 h2 => by
  cases (show _ = V.ref b from h1)
  exact .own (Mxs.of h2)
 | _, .mix ys :: _, .cons h1 h2 => .mix h1 (Mxs.of h2)
 | _, .ty t :: _, .cons h1 h2 => h1.elim
theorem Mxs.vr : ∀ {vs : List V} {xs : List DV}, Mxs K M H vs xs → Paired (VR0 K M H) vs xs
 | _, _, .nil => .nil
 | _, _, .dat h1 h2 => .cons h1 (Mxs.vr h2)
 | _, _, .own h2 => .cons rfl (Mxs.vr h2)
 | _, _, .mix h1 h2 => .cons h1 (Mxs.vr h2)
mutual
inductive AsD (M : Mp) : DV → PyData → Prop
 | dat (d : PyData) : AsD M (.dat d) d
 | lsv {a : Addr} {n : Nat} {xs : List DV} {ds : List PyData} : M a = some (.lsv n xs) → Ex M xs ds → AsD M (.own a) (.list ds)
 | mix {xs : List DV} {ds : List PyData} : Ex M xs ds → AsD M (.mix xs) (.tuple ds)
 | lst {a : Addr} {ds : List PyData} : M a = some (.lst ds) → AsD M (.own a) (.list ds)
 | dkv {a : Addr} {ps : List (Key × PyData)} : M a = some (.dkv ps) → AsD M (.own a) (.dict (ps.map fun q => (kD q.1, q.2)))
inductive Ex (M : Mp) : List DV → List PyData → Prop
 | nil : Ex M [] []
 | cons {x : DV} {xs : List DV} {d : PyData} {ds : List PyData} : AsD M x d → Ex M xs ds → Ex M (x :: xs) (d :: ds)
end
theorem Sd (r : ZE K M H) {a : Addr} {ps : List (Key × PyData)} (hm : M a = some (.dkv ps)) : Dt K (fun _ => none) H (.ref a) (.dict (ps.map fun q => (kD q.1, q.2))) := by
 obtain ⟨kvs, g1, g2, g3⟩ := (show OOk K M H a (.dkv ps) from r.ok a _ hm)
 have e : (kvs.map fun kv => kD kv.1) = ps.map fun q => kD q.1 := by
  have := congrArg (List.map kD) g2
  rwa [List.map_map, List.map_map] at this
 have z := Dt.dK (K := K) (M := fun _ => none) (H := H) (a := a) rfl g1 (g3.step Step.all)
 rw [e, List.zip_map'] at z
 exact z
mutual
theorem AsD.dt (r : ZE K M H) : ∀ {x : DV} {d : PyData}, AsD M x d → ∀ {v : V}, VR0 K M H v x → Dt K (fun _ => none) H v d
 | _, _, .dat _, _, h => Dt.step Step.all h
 | _, _, .lsv hm hs, _, h => by
  cases (show _ = V.ref _ from h)
  exact .lst (.inl ⟨rfl, .inl (r.lv hm).choose_spec.1⟩) (Ex.dt r hs (r.lv hm).choose_spec.2)
 | _, _, .mix hs, _, h => by
  cases (show Mx K M H _ _ from h) with
  | mk h1 h2 h3 => exact .tup (.inl ⟨rfl, .inl h2⟩) (Ex.dt r hs h3.vr)
 | _, _, .lst hm, _, h => by
  cases (show _ = V.ref _ from h)
  exact .lst (.inl ⟨rfl, .inl (r.ls _ _ hm).choose_spec.1⟩) ((r.ls _ _ hm).choose_spec.2.step Step.all)
 | _, _, .dkv hm, _, h => by
  cases (show _ = V.ref _ from h)
  exact Sd r hm
theorem Ex.dt (r : ZE K M H) : ∀ {xs : List DV} {ds : List PyData}, Ex M xs ds → ∀ {vs : List V}, Paired (VR0 K M H) vs xs → Dts K (fun _ => none) H vs ds
 | _, _, .nil, _, h => by cases h; exact .nil
 | _, _, .cons h1 h2, _, h => by
  cases h with
  | cons a b => exact .cons (AsD.dt r h1 a) (Ex.dt r h2 b)
end
mutual
noncomputable def Y6 : PyData → Bool
 | .none => true
 | .bool _ => true
 | .int _ => true
 | .str _ => true
 | .tuple ds => Wf ds
 | _ => false
noncomputable def Wf : List PyData → Bool
 | [] => true
 | d :: ds => Y6 d && Wf ds
end
theorem Na (r : ZE K M H) {a : Addr} {xs : List V} (h : Rd H a (.tup xs)) : M a = none := by
 cases q : M a with
 | none => rfl
 | some o =>
  have g := r.ok a o q
  exfalso
  have no : ∀ u, H a = some u → (∀ ys, u ≠ .tup ys) → (∀ o ys, u ≠ .frz o (.tup ys)) → False := fun u e n1 n2 => by
   rcases h with h | ⟨o, h⟩
   ·rw [h] at e; cases e; exact n1 _ rfl
   ·rw [h] at e; cases e; exact n2 _ _ rfl
  cases o with
  | lst ds => obtain ⟨vs, e, _⟩ := g; exact no _ e (fun _ z => nomatch z) (fun _ _ z => nomatch z)
  | dct ks => obtain ⟨vs, e, _⟩ := g; exact no _ e (fun _ z => nomatch z) (fun _ _ z => nomatch z)
  | dtv ps => obtain ⟨vs, e, _⟩ := g; exact no _ e (fun _ z => nomatch z) (fun _ _ z => nomatch z)
  | dkv ps => obtain ⟨vs, e, _⟩ := g; exact no _ e (fun _ z => nomatch z) (fun _ _ z => nomatch z)
  | dko ps => obtain ⟨vs, e, _⟩ := g; exact no _ e (fun _ z => nomatch z) (fun _ _ z => nomatch z)
  | fdk o ps => obtain ⟨vs, e, _⟩ := g; exact no _ e (fun _ z => nomatch z) (fun _ _ z => (by cases z))
  | lsv n xs => obtain ⟨vs, e, _⟩ := g; exact no _ e (fun _ z => nomatch z) (fun _ _ z => nomatch z)
  | ext φ => exact no _ g (fun _ z => nomatch z) (fun _ _ z => nomatch z)
  | gst N₀ H₀ => obtain ⟨⟨vs, e, _⟩, _⟩ := g; exact no _ e (fun _ z => nomatch z) (fun _ _ z => nomatch z)
theorem Lx (r : ZE K M H) {a : Addr} {xs : List V} (h : TupAt K M' H a xs) : TupAt K M H a xs := by
 rcases h with ⟨_, h⟩ | h
 ·exact .inl ⟨Na r h, h⟩
 ·exact .inr h
mutual
theorem Dt.back (r : ZE K M H) : ∀ {v : V} {d : PyData}, Dt K M' H v d → Y6 d = true → Dt K M H v d
 | _, _, .non, _ => .non
 | _, _, .bl b, _ => .bl b
 | _, _, .int i, _ => .int i
 | _, _, .str x, _ => .str x
 | _, _, .tup h1 h2, l => .tup (Lx r h1) (Dts.back r h2 (by rw [Y6] at l; exact l))
 | _, _, .lst _ _, l => by simp [Y6] at l
 | _, _, .dK _ _ _, l => by simp [Y6] at l
 | _, _, .dT _ _ _ _, l => by simp [Y6] at l
 | _, _, .dX _ _ _ _ _ _, l => by simp [Y6] at l
theorem Dts.back (r : ZE K M H) : ∀ {vs : List V} {ds : List PyData}, Dts K M' H vs ds → Wf ds = true → Dts K M H vs ds
 | _, _, .nil, _ => .nil
 | _, _, .cons h1 h2, l => .cons (Dt.back r h1 (by rw [Wf, Bool.and_eq_true] at l; exact l.1)) (Dts.back r h2 (by rw [Wf, Bool.and_eq_true] at l; exact l.2))
end
end
noncomputable def Cy : DSt → DSt
 | [] => []
 | _ :: r => none :: Cy r
noncomputable def Ku : Nat → DV → DSt → DSt
 | _, _, [] => []
 | 0, x, _ :: r => some x :: Cy r
 | n + 1, x, _ :: r => none :: Ku n x r
section
variable {X : Cx} {e o i : Expr} {es : List Expr} {te to ti : DTE} {t : DTA} {pos pos' : Pos}
noncomputable def Pd (o : Option OO) (P : Nat → List DV → Prop) : Prop := match o with | some (.lsv n xs) => P n xs | _ => False
noncomputable def ZfX (n : Nat) (te : DTE) : DTE := fun Δ M Φ => onV Δ[n]? fun x => ∃ d, AsD M x d ∧ te (Ku n (.dat d) Δ) (fun _ => none) fun y _ => onD y fun c => Y6 c = true ∧ Φ (.dat c) M
noncomputable def Zfh (n m : Nat) (te : DTE) : DTE := fun Δ M Φ => onV Δ[n]? fun x => onV Δ[m]? fun y => ∃ d f, AsD M x d ∧ AsD M y f ∧ te ((Ku n (.dat d) Δ).set m (some (.dat f))) (fun _ => none) fun y _ => onD y fun c => Y6 c = true ∧ Φ (.dat c) M
noncomputable def ZfH (to ti : DTE) : DTE := fun Δ M Φ => to Δ M fun x M1 => ti Δ M1 fun y M2 => onO x fun l => onI y fun i => Pd (M2 l) fun _ xs => ∃ z, L2.atI xs i = some z ∧ Φ z M2
noncomputable def Zea (t : DTA) (ti : DTE) : DTE := fun Δ M Φ => t Δ M fun xs M1 => Nat.ble xs.length 100 = true ∧ ti Δ M1 fun y M2 => onI y fun i => ∃ x, L2.atI xs i = some x ∧ Φ x M2
noncomputable def ZcS : List DV → Prop → Prop
 | [], P => P
 | x :: r, P => Pq x (ZcS r P)
noncomputable def ZeU (n : Nat) (t : DTA) : DTE := fun Δ M Φ => t Δ M fun xs M1 => ZcS xs (Nat.ble xs.length 100 = true ∧ ∀ p, M1 p = none → Φ (.own p) (ZF M1 p (.lsv n xs)))
noncomputable def ZaQ (to te : DTE) : DTE := fun Δ M Φ => to Δ M fun x M1 => onO x fun l => Pd (M1 l) fun _ _ => te Δ M1 fun y M2 => Pq y (Pd (M2 l) fun n xs => xs.length < sizeLine ∧ Φ (.dat .none) (ZF M2 l (.lsv n (xs ++ [y]))))
noncomputable def Rt (to : DTE) : DTE := fun Δ M Φ => to Δ M fun x M1 => onO x fun l => Pd (M1 l) fun n xs => Φ (.dat .none) (ZF M1 l (.lsv n xs.reverse))
noncomputable def ZdG : D1 := fun xs M Φ => on1 xs fun x => onO x fun l => Pd (M l) fun _ ys => (Φ (.mix ys) M) ∨ ∃ ds, ys = ds.map DV.dat ∧ Φ (.dat (.tuple ds)) M
noncomputable def ZcN (n : Nat) : D1 := fun xs M Φ => on1 xs fun x => onT x fun ds => ∀ p, M p = none → Φ (.own p) (ZF M p (.lsv n (ds.map DV.dat)))
noncomputable def Zfn (x : DV) (M : Mp) (P : Bool → Prop) : Prop := match x with
 | .dat d => P (ZD "list" d)
 | .mix _ => P false
 | .own l => Pd (M l) fun _ _ => P true
 | .ty _ => False
noncomputable def ZcW : D1 := fun xs M Φ => on2 xs fun x y => y = .ty "list" ∧ Zfn x M fun b => Φ (.dat (.bool b)) M
end
noncomputable def Zfl (x : DV) (M : Mp) (P : List DV → (Mp → Prop) → Prop) : Prop := match x with
 | .dat (.tuple ds) => P (ds.map DV.dat) (fun _ => True)
 | .mix xs => P xs (fun _ => True)
 | .own l => Pd (M l) fun n xs => P xs (fun M2 => M2 l = some (.lsv n xs))
 | _ => False
noncomputable def YlV (K : PySem.W.Frag) (J : It) (xs : List DV) (G : Mp → Prop) (M : Mp) (H : Hp) : Prop := ∀ M2 H2, Step M H M2 H2 → ZE K M2 H2 → G M2 → ∀ i,
 (i < xs.length → J.go i H2 ∧ ∀ x H', J.yld i H2 x H' → H' = H2 ∧ ∃ y, xs[i]? = some y ∧ Qh K M2 H2 x y) ∧ (xs.length ≤ i → J.stop i H2)
section
variable {X : Cx} {tg iter : Expr} {te : DTE} {g : DTG} {tb : DTS} {body : List Stmt} {pos : Pos}
noncomputable def Tu (G : Mp → Prop) (g : DTG) (tb : DTS) (D : Qf) (xs : List DV) (Δ : DSt) (M : Mp) : Prop :=
 ∃ J : Nat → DSt → Mp → Prop, (∀ i Δ M, J i Δ M → G M) ∧ J 0 Δ M ∧ (∀ i x Δ M, xs[i]? = some x → J i Δ M → g x Δ M fun Δ2 M2 => tb { D with nx := J (i + 1), ct := J (i + 1), bk := D.nx } Δ2 M2) ∧ ∀ Δ M, J xs.length Δ M → D.nx Δ M
noncomputable def Zeb (te : DTE) (g : DTG) (tb : DTS) : DTS := fun D Δ M => te Δ M fun x M1 => Zfl x M1 fun xs G => Tu G g tb D xs Δ M1
end
end DL
namespace DL
open PySem PySem.Spec PyProof.Rows L2 PySem.W
section
variable {P : Program} {w : World} {A : Around} {E : Value → Shared → Prop} {s : Shared}
end
section
variable {X : Cx} {e : Expr} {t : TA} {p pos p2 pos2 : Pos}
noncomputable def Zf0 (X : Cx) (t : TA) : TE := fun σ H Q => t σ H fun xs H1 => ∃ (l : Addr) (ns : List Str), xs = [.ref l] ∧ SqL X.K H1 l (ns.map V.str) ∧ ns.length < 64 ∧ ∀ ks : List Str, ks.Nodup → (∀ z, z ∈ ks ↔ z ∈ ns) → Q (.int (ks.length : Int)) H1
noncomputable def Zgf (t : DTA) : DTE := fun Δ M Φ => t Δ M fun xs M1 => on1 xs fun x => onK x M1 fun ds => Ga ds fun ns => ns.length < 64 ∧ ∀ ks : List Str, ks.Nodup → (∀ z, z ∈ ks ↔ z ∈ ns) → Φ (.dat (.int (ks.length : Int))) M1
end
end DL
namespace DL
open PySem PySem.Spec PyProof.Rows L2 PySem.W
section
variable {X : Cx} {o : Expr} {to : TE} {p pos apos cpos : Pos}
noncomputable def tLV (f : Key × V → V) (to : TE) : TE := fun σ H Q => to σ H fun x H1 => ∃ a kvs, x = .ref a ∧ H1 a = some (.dK kvs) ∧ kvs.length ≤ sizeLine ∧ ∀ l, H1 l = none → Q (.ref l) (upd H1 l (.lst (kvs.map f)))
end
section
variable {X : Cx} {o : Expr} {td : DTE} {p pos apos cpos : Pos}
noncomputable def dLK (td : DTE) : DTE := fun Δ M Φ => td Δ M fun x M1 => onO x fun l => XZ (M1 l) fun ps => ps.length ≤ sizeLine ∧ Φ (.dat (.list (ps.map fun q => kD q.1))) M1
noncomputable def Zgm (td : DTE) : DTE := fun Δ M Φ => td Δ M fun x M1 => onO x fun l => XZ (M1 l) fun ps => ps.length ≤ sizeLine ∧ Φ (.dat (.list (ps.map fun q => q.2))) M1
end
end DL
namespace DL
open PySem PySem.Spec PyProof.Rows L2 PySem.W
section
variable {X : Cx}
noncomputable abbrev HV (ds : List PyData) (M1 : Mp) (Δ : DSt) (ix : List (Option Nat)) (g : DTG) (tc : DTT) (te : DTE) (ψ : List DV → Mp → Prop) : Prop := ds.length ≤ sizeLine ∧ ∃ J : Nat → List DV → Mp → Prop, J 0 [] M1 ∧
 (∀ i d acc M', ds[i]? = some d → J i acc M' → g (.dat d) (WM ix Δ) M' fun Δ2 M2 => tc Δ2 M2 fun b M3 => if b = true then te Δ2 M3 fun y M4 => Pq y (J (i + 1) (acc ++ [y]) M4) else J (i + 1) acc M3) ∧ ∀ acc M', J ds.length acc M' → ψ acc M'
set_option maxHeartbeats 2000000 in
noncomputable def ZdK (n : Nat) (src : VB) (ix : List (Option Nat)) (g : DTG) (tc : DTT) (te : DTE) : DTE := fun Δ M Φ => src Δ M fun ds M1 => HV ds M1 Δ ix g tc te fun acc M' => ∀ p, M' p = none → Φ (.own p) (ZF M' p (.lsv n acc))
noncomputable def U3 (g : DTG) (tc : DTT) (te : DTE) (Δc : DSt) (fin : List DV → Mp → Prop) : List PyData → List DV → Mp → Prop
 | [], acc, M => fin acc M
 | d :: ds, acc, M => g (.dat d) Δc M fun Δ2 M2 => tc Δ2 M2 fun b M3 => if b = true then te Δ2 M3 fun y M4 => Pq y (U3 g tc te Δc fin ds (acc ++ [y]) M4) else U3 g tc te Δc fin ds acc M3
end
end DL
namespace DL
open PySem PySem.Spec PyProof.Rows L2 PySem.W
noncomputable def Zec (d : PyData) : Prop := Shw d ∨ ∃ e ds, d = .list (e :: ds) ∧ ∀ x ∈ e :: ds, Shw x
theorem UW {P : Program} {w : World} {as : List Addr} {h : Heap} {d : Nat} : ∀ {l : List Value} {ts : List Str}, ReprAllK P w as h d l ts → ∀ (i : Nat) (y : Value), l[i]? = some y → ∃ t, ts[i]? = some t ∧ ReprK P w as h d y t
 | _, _, .nil, _, _, e => by simp at e
 | _, _, .cons h _, 0, _, e => by simp at e; subst e; exact ⟨_, rfl, h⟩
 | _, _, .cons _ h, i + 1, y, e => by
  obtain ⟨t, h1, h2⟩ := UW h i y (by simpa using e)
  exact ⟨t, by simpa using h1, h2⟩
section
variable {X : Cx} {pins : List (Addr × Obj)} {σ : L2.St} {H : Hp} {s : Shared} {M : Mp}
end
section
variable {X : Cx}
noncomputable def ZaM : D1 := fun xs M Φ => on1 xs fun x => onT x fun ds => ((∀ d ∈ ds, Zec d) ∧ (PyData.tuple ds).depth ≤ 64 ∧ (PyData.tuple ds).shown.length ≤ sizeLine) ∧ Φ (.dat (.str (PyData.tuple ds).shown)) M
end
end DL
namespace DL
open PySem PySem.Spec PyProof.Rows L2 PySem.W
noncomputable def kvD (ps : List (Key × PyData)) : PyData := .dict (ps.map fun q => (kD q.1, q.2))
noncomputable def OJ (x : DV) (P : List (Key × PyData) → Prop) : Prop := ∃ ps, x = .dat (kvD ps) ∧ P ps
section
variable {K : PySem.W.Frag} {M : Mp} {H : Hp}
end
section
variable {X : Cx} {o e f : Expr} {td te tf : DTE} {p pos apos cpos : Pos}
noncomputable def Zfu (t : DTE) : DTE := fun Δ M Φ => t Δ M fun x M1 => onO x fun l => XZ (M1 l) fun ps => Φ (.dat (kvD ps)) (V5 M1 l)
noncomputable def Ze4 (td ti tx : DTE) : DTE := fun Δ M Φ => td Δ M fun x M1 => OJ x fun ps => ti Δ M1 fun y M2 => tx Δ M2 fun z M3 => onS y fun s => onD z fun d => Φ (.dat ((QE ps (.inr s)).getD d)) M3
noncomputable def Zf7 (td : DTE) : DTE := fun Δ M Φ => td Δ M fun x M1 => OJ x fun ps => ps.length ≤ sizeLine ∧ Φ (.dat (.list (ps.map fun q => kD q.1))) M1
noncomputable def ZfL (td : DTE) : DTE := fun Δ M Φ => td Δ M fun x M1 => OJ x fun ps => ps.length ≤ sizeLine ∧ Φ (.dat (.list (ps.map fun q => q.2))) M1
end
section
variable {X : Cx} {e : Expr} {te : DTE}
noncomputable def Zdw (te : DTE) (Δ : DSt) (M : Mp) (Φ : DK) : List Nat → DSt → Prop
 | [], Δ0 => te Δ0 (fun _ => none) fun y _ => onD y fun c => Y6 c = true ∧ Φ (.dat c) M
 | n :: ns, Δ0 => onV Δ[n]? fun x => ∃ d, AsD M x d ∧ Zdw te Δ M Φ ns (Δ0.set n (some (.dat d)))
noncomputable def ZeA (ns : List Nat) (te : DTE) : DTE := fun Δ M Φ => Zdw te Δ M Φ ns (Cy Δ)
end
section
variable {X : Cx}
noncomputable def Gu : D1 := fun xs M Φ => on1 xs fun x => onT x fun ds => ∀ p, M p = none → Φ (.own p) (ZF M p (.lst ds))
theorem Bm (xs : List DV) (M : Mp) (Φ : DK) : Gu xs M Φ = (on1 xs fun x => onT x fun ds => ∀ p, M p = none → Φ (.own p) (ZF M p (.lst ds))) := propext Iff.rfl
theorem Ee : JX X (.type "list") Gu := by
 refine ⟨_, VL, fun vs H xs M Φ Q r rv h k => ?_⟩
 replace h := Zx h
 obtain ⟨x, rfl, h⟩ := h
 replace h := Vr h
 obtain ⟨ds, rfl, q⟩ := h
 obtain ⟨v, rfl, h1⟩ := Paired.one rv
 obtain ⟨p, ys, rfl, g1, g2⟩ := Qh.tup h1
 exact ⟨p, ys, rfl, .inr g1.sq, fun l hl => k _ _ (.own l) _ (r.Yh (Step.Js hl) g2) (Step.Js hl) rfl (q l (r.tracked hl))⟩
end
end DL
namespace DL
open PySem PySem.Spec PyProof.Rows L2 PySem.W
section
variable {prog : Program} {w : World} {A : Around} {E : Value → Shared → Prop} {h : Heap} {g : Array GenState} {d : Drawn} {t : Nat} {os : OsState} {nm q : Str} {C N : Addr} {bs bm bmB : List Value} {hdct : Bool} {sn : List Str}
 {sub : List Value} {ab : Bool} {col : Option Bool} {dd : Option Addr} {k0 k1 k2 k3 k5 : Option Value} {B newId initId : String}
theorem NV (F : ExcBaseFacts B newId initId bmB) (T : OwnTail h bmB bm) {mN : Str → Option Value} {rest : List Value} {Q : Fin → Shared → Prop} (hC : h.get? C = some (excClassObj nm q C N bs bm hdct sn sub ab col dd k0 k1 k2 k3 k5 newId)) (hn : h.Ns N mN)
  (hni : mN "__init__" = none) (hq : ∀ h' e, Heap.MadeExcOf h h' e (.ref C) rest → h.objs.size ≤ e → Q (.done (.ret (.ref e))) ⟨h', g, d, t, os⟩) (hrest : rest.length ≤ sizeLine) : wpAny (model prog w) A (Builtin.«type.__call__» ⟨.ref C :: rest, []⟩) Q E ⟨h, g, d, t, os⟩ := by
 repeat (first | with_reducible refine wpAny_loadPart_at hC ?_ | with_reducible refine wpAny_madeBy_exc hC ?_ | wp_step)
 refine codeAny_call_builtin_code (Code.quiet_builtin _ F.quiet) (wpAny_check_new_subT F T hC ?_); refine codeAny_exc_new_subT F T hC ?_ hrest
 show wpAny _ _ _ _ _ _
 generalize hO1 : ({ cls := .type "tuple", data := .seq rest.toArray } : Obj) = o1
 generalize hO2 : ({ cls := .ref C, data := .fields #[.ref h.objs.size, .none, .none, .none, .bool false, .none] } : Obj) = o2
 have f1 : o1.isFreed = false := by subst hO1; rfl
 have f2 : o2.isFreed = false := by subst hO2; rfl
 have old : ∀ b o, h.get? b = some o → ((h.push o1).push o2).get? b = some o := fun b o e => Heap.get?_push_of_some _ (Heap.get?_push_of_some _ e)
 have hC₁ := old _ _ hC
 have hn₁ : ((h.push o1).push o2).Ns N mN := let ⟨o, es, ep, e, r⟩ := hn; ⟨o, es, ep, old _ _ e, r⟩
 have hget : ((h.push o1).push o2).get? (h.objs.size + 1) = some o2 := Heap.get?_push_at (by rw [Heap.size_push]) f2
 have ho2c : o2.cls = .ref C := by subst hO2; rfl
 have hcC : (Value.ref C :: bm).contains (.ref C) = true := by simp
 have T₁ := T.keeps old
 unfold isInstance
 repeat (first | (with_reducible refine wpAny_loadPart_at hget ?_; rw [ho2c]) | (with_reducible refine wpAny_isSubtype_exc hC₁ ?_; rw [hcC]) | wp_step)
 show wpAny _ _ (typeLookup (.ref C) _) _ _ _
 refine wpAny_typeLookup_tail hC₁ hn₁ T₁ F.mroIs F.init.lookup ?_; rw [hni]
 refine wpAny_holding (wpAny_bind (wpAny_of_eq (F.init.bind _) ?_)); refine wpAny_bind (wpAny_call (codeAny_call_builtin F.init.plain F.initEntry (wpAny_check_init_subT F T₁ hC₁ hget ho2c ?_)))
 subst hO1 hO2
 wp_walk
 refine hq _ _ ⟨fun b o hb => ?_, Heap.get?_none_of_le (Nat.le_succ _), h.objs.size + 2, ?_, Heap.get?_none_of_le (by omega), ?_⟩ (Nat.le_succ _)
 ·rw [Heap.get?_update_other _ _ (Nat.ne_of_gt (Nat.lt_succ_of_lt (Heap.lt_size hb)))]; exact Heap.get?_push_of_some _ (Heap.get?_push_of_some _ (Heap.get?_push_of_some _ hb))
 ·rw [Heap.get?_update_self _ (Heap.get?_push_of_some _ hget) rfl]; simp only [Heap.size_push]; rfl
 ·rw [Heap.get?_update_other _ _ (show h.objs.size + 1 ≠ h.objs.size + 2 by omega)]; exact Heap.get?_push_at (by simp only [Heap.size_push]) rfl
theorem BM (F : ExcBaseFacts B newId initId bmB) (T : OwnTail h bmB bm) {mN : Str → Option Value} {rest : List Value} {Q : Value → Shared → Prop} (hC : h.get? C = some (excClassObj nm q C N bs bm hdct sn sub ab col dd k0 k1 k2 k3 k5 newId)) (hn : h.Ns N mN)
  (hni : mN "__init__" = none) (hq : ∀ h' e, Heap.MadeExcOf h h' e (.ref C) rest → h.objs.size ≤ e → Q (.ref e) ⟨h', g, d, t, os⟩) (hrest : rest.length ≤ sizeLine) : wpAny (model prog w) A (call (.ref C) rest) Q E ⟨h, g, d, t, os⟩ := by
 have f1 := tc_lookup; have f2 := tc_bind (.ref C); have hT : (⟨h, g, d, t, os⟩ : Shared).TypeIs (.ref C) "type" := ⟨_, hC, rfl⟩
 refine wpAny_call (codeAny_of_tree ?_)
 show wpAny _ _ (callAny (.ref C) _) _ _ _
 repeat (any_goals (first | assumption | with_reducible refine wpAny_loadPart_at hC ?_ | wp_step))
 refine ⟨rfl, ?_⟩; refine codeAny_call_builtin_at (Code.quiet_builtin _ (by decide +kernel)) entry_typeCall (wpAny_check_type_call_sub hC (NV F T hC hn hni (fun h' e hm hz => ?_) hrest)); exact hq h' e hm hz
end
section
variable {prog : Program} {w : World} {A : Around} {E : Value → Shared → Prop} {s : Shared} {env : Env} {nm q : Str} {C N : Addr} {bs bm bmB : List Value} {hdct : Bool} {sn : List Str} {sub : List Value} {ab : Bool} {col : Option Bool} {dd : Option Addr}
 {k0 k1 k2 k3 k5 : Option Value} {B newId initId : String}
theorem GV (F : ExcBaseFacts B newId initId bmB) {mN : Str → Option Value} {x : Str} {np cpos pos : Pos} {args : List Expr} {Q : Flow → Shared → Prop} (hbase : bm.contains (.type "BaseException") = true) (hh : A.handled = none) (hplain : (backTo cpos (starEach args env)).any (·.1) = false)
  (hni : mN "__init__" = none) (h : wpAny (model prog w) A (eval (.Name x np) env) (fun f s₁ => f = .ref C ∧ wpAny (model prog w) A (evalArgs (.ref C) true (backTo cpos (starEach args env)) []) (fun a s₂ => a.kw = [] ∧ a.pos.length ≤ sizeLine ∧ s₂.heap.get? C = some (excClassObj nm q C N bs bm hdct sn sub ab col dd k0 k1 k2 k3 k5 newId) ∧
   s₂.heap.Ns N mN ∧ OwnTail s₂.heap bmB bm ∧ ∀ h' e, Heap.MadeExcOf s₂.heap h' e (.ref C) a.pos → s₂.heap.objs.size ≤ e → E (.ref e) { s₂ with heap := h' }) E s₁) E s) : wpAny (model prog w) A (exec (.Raise (some (.Call (.Name x np) args [] cpos)) none pos) env) Q E s := by
 rw [arm_exec_Raise]
 have key : wpAny (model prog w) A (eval (.Call (.Name x np) args [] cpos) env) (fun v s₁ => ∃ e t, v = .ref e ∧ s₁.heap.get? C = some (excClassObj nm q C N bs bm hdct sn sub ab col dd k0 k1 k2 k3 k5 newId) ∧
   s₁.heap.get? e = some { cls := .ref C, data := .fields #[.ref t, .none, .none, .none, .bool false, .none] } ∧ E (.ref e) s₁) E s := by
  refine wpAny_Call_ofName (wpAny_mono h (fun f s₁ h₁ => ?_) fun _ _ x => x)
  obtain ⟨rfl, h₁⟩ := h₁
  unfold callWith
  refine wpAny_bind (wpAny_holding (wpAny_mono h₁ (fun a s₂ h₂ => wpAny_bind (wpAny_standAt ?_)) fun _ _ x => x)); obtain ⟨apos, akw⟩ := a; obtain ⟨hkw, hlen, hC, hn, T, h₂⟩ := h₂; obtain rfl : akw = [] := hkw
  obtain ⟨hp, g, d, tk, os⟩ := s₂; simp only [hplain]; refine wpAny_bind (wpAny_keeperOf_exc hC ?_)
  refine wpAny_bind (BM F T hC hn hni (fun h' e hm hz => wpAny_bind (wpAny_holding (wpAny_point (wpAny_pure ?_)))) hlen); obtain ⟨t, ht, _, _⟩ := hm.there; exact ⟨e, t, rfl, hm.keeps _ _ hC, ht, h₂ h' e hm hz⟩
 first
  | exact wpAny_bind (wpAny_standAt (wpAny_raiseStmt_made_sub (C := C) (nm := nm) (q := q) (N := N) (bs := bs) (bm := bm) (hdct := hdct) (sn := sn) (sub := sub) (ab := ab) (col := col) (dd := dd) (k0 := k0) (k1 := k1) (k2 := k2) (k3 := k3) (k5 := k5) (newId := newId) hbase hh (wpAny_bind (wpAny_mono key (fun v s₃ h₃ => wpAny_bind (wpAny_standAt (wpAny_pure h₃))) fun _ _ x => x))))
  | (simp only [evalOpt, Option.map]; exact wpAny_bind (wpAny_standAt (wpAny_raiseStmt_made_sub (C := C) (nm := nm) (q := q) (N := N) (bs := bs) (bm := bm) (hdct := hdct) (sn := sn) (sub := sub) (ab := ab) (col := col) (dd := dd) (k0 := k0) (k1 := k1) (k2 := k2) (k3 := k3) (k5 := k5) (newId := newId) hbase hh (wpAny_bind (wpAny_mono key (fun v s₃ h₃ => wpAny_bind (wpAny_standAt (wpAny_pure h₃))) fun _ _ x => x)))))
end
end DL
namespace DL
open PySem PySem.Spec PyProof.Rows L2 PySem.W
noncomputable def Y2 (h : Heap) (a : Addr) (cls : Value) (tb : Option Addr) : Prop :=
 ∃ oe vs, h.get? a = some oe ∧ (oe.cls = cls ∧ oe.dict = none) ∧ oe.data = .fields vs ∧ match tb with
  | none => vs[1]? = some .none
  | some T => vs[1]? = some (.ref T) ∧ T ≠ a ∧ ∃ oT ts fl, h.get? T = some oT ∧ oT.data = .fields ts ∧ ts[3]? = some fl
structure Chg (fs : List Addr) (a : Addr) (tb : Option Addr) (h h' : Heap) : Prop where
 keep : ∀ b o, h.get? b = some o → b ∉ fs → b ≠ a → tb ≠ some b → h'.get? b = some o
 slot : ∀ b o, h.get? b = some o → b ≠ a → tb ≠ some b → ∃ sl, h'.get? b = some { o with slots := sl }
 there : ∀ b o, h.get? b = some o → ∃ o', h'.get? b = some o'
theorem Chg.of_keeps {fs : List Addr} {a : Addr} {tb : Option Addr} {h h' : Heap} (k : ∀ b o, h.get? b = some o → h'.get? b = some o) : Chg fs a tb h h' :=
 ⟨fun b o e _ _ _ => k b o e, fun b o e _ _ => ⟨o.slots, k b o e⟩, fun b o e => ⟨o, k b o e⟩⟩
theorem Y2.fields {h : Heap} {a : Addr} {cls : Value} {tb : Option Addr} (x : Y2 h a cls tb) : (∃ o vs, h.get? a = some o ∧ o.data = .fields vs) ∧ ∀ T, tb = some T → ∃ o vs, h.get? T = some o ∧ o.data = .fields vs := by
 obtain ⟨oe, vs, h1, _, h2, h3⟩ := x
 refine ⟨⟨oe, vs, h1, h2⟩, fun T e => ?_⟩
 subst e
 obtain ⟨_, _, oT, ts, _, g1, g2, _⟩ := h3
 exact ⟨oT, ts, g1, g2⟩
theorem Y2.keeps {h h' : Heap} {a : Addr} {cls : Value} {tb : Option Addr} (x : Y2 h a cls tb) (k1 : ∀ o, h.get? a = some o → h'.get? a = some o) (k2 : ∀ T o, tb = some T → h.get? T = some o → h'.get? T = some o) : Y2 h' a cls tb := by
 obtain ⟨oe, vs, h1, hc, h2, h3⟩ := x
 refine ⟨oe, vs, k1 _ h1, hc, h2, ?_⟩
 cases tb with
 | none => exact h3
 | some T =>
  obtain ⟨e1, e2, oT, ts, fl, g1, g2, g3⟩ := h3
  exact ⟨e1, e2, oT, ts, fl, k2 T _ rfl g1, g2, g3⟩
theorem Y8 (F : Array Value → Array Value) (o : Obj) : (Obj.mapFields F o).dict = o.dict := by
 unfold Obj.mapFields
 split <;> rfl
section
variable {M : Model} {A : Around} {E : Value → Shared → Prop} {s : Shared} {a : Addr} {cls : Value} {tb : Option Addr} {Q : Unit → Shared → Prop}
theorem Eh {f : Option Addr} (he : Y2 s.heap a cls tb) (h : ∀ h', Chg [] a tb s.heap h' → Y2 h' a cls tb → s.heap.objs.size ≤ h'.objs.size → Q () { s with heap := h' }) : wpAny M A (setFlight (.ref a) f) Q E s := by
 obtain ⟨oe, vs, h1, hc, h2, h3⟩ := id he
 unfold setFlight
 cases tb with
 | none =>
  refine wpAny_bind (wpAny_field h1 h2 h3 ?_)
  rw [if_neg (by decide)]
  exact wpAny_pure (h s.heap (.of_keeps fun _ _ e => e) he (Nat.le_refl _))
 | some T =>
  obtain ⟨e1, e2, oT, ts, fl, g1, g2, g3⟩ := h3
  have hsz3 : 3 < ts.size := (Array.getElem?_eq_some_iff.mp g3).1
  refine wpAny_bind (wpAny_field h1 h2 e1 ?_)
  rw [if_pos (show (Value.ref T != Value.none) = true from by simp)]
  have other : ∀ b, b ≠ T → ∀ F : Obj → Obj, (s.heap.update T F).get? b = s.heap.get? b := fun b hb F => Heap.get?_update_other _ _ (Ne.symm hb)
  refine wpAny_setField g1 g2 hsz3 (h _ ⟨fun b o e _ _ n => ?_, fun b o e _ n => ⟨o.slots, ?_⟩, fun b o e => ?_⟩ ⟨oe, vs, (other a (Ne.symm e2) _).trans h1, hc, h2, e1, e2, _, _, _, Heap.get?_update_self _ g1 (Obj.isFreed_of_fields (Obj.data_mapFields g2 _)), Obj.data_mapFields g2 _, by simp [hsz3]; rfl⟩ (by rw [Heap.size_after_update]; exact Nat.le_refl _))
  ·exact (other b (fun z => n (by rw [z])) _).trans e
  ·exact (other b (fun z => n (by rw [z])) _).trans e
  ·by_cases z : b = T
   ·subst z
    exact ⟨_, Heap.get?_update_self _ g1 (Obj.isFreed_of_fields (Obj.data_mapFields g2 _))⟩
   ·exact ⟨o, (other b z _).trans e⟩
theorem UI {base : Heap} {env f : Env} {outer : List Env} {L : Addr} {Q : Value → Shared → Prop} (hfr : A.frames = some (f :: outer)) (hl : s.heap.FunFrames base (f :: outer)) (hfL : f.frame = some L) (hf : env.frame = some L)
  (h : ∀ h', Heap.SlotsOnly ((f :: outer).filterMap (·.frame)) s.heap h' → Q (.ref L) { s with heap := h' }) : wpAny M A (PySem.frameOf env) Q E s := by
 unfold PySem.frameOf
 refine wpAny_bind (wpAny_frameEnvs hfr ?_)
 have hdw : ((f :: outer).dropWhile fun x => x.frame != env.frame) = f :: outer := by simp [List.dropWhile, hfL, hf]
 rw [hdw]
 unfold frameObject
 refine wpAny_bind (wpAny_bind (wpAny_readyFrames_fun hl fun h₁ hs₁ => wpAny_pure ?_))
 rw [hfL]
 exact wpAny_pure (h h₁ hs₁)
theorem entry_any {base : Heap} {env f : Env} {outer : List Env} {L : Addr} {oe : Obj} {vs : Array Value} {head : Value} {hadNext : Bool} (hfr : A.frames = some (f :: outer)) (hl : s.heap.FunFrames base (f :: outer)) (hfL : f.frame = some L) (hf : env.frame = some L)
  (he : s.heap.get? a = some oe) (hcl : oe.cls = cls ∧ oe.dict = none) (hd : oe.data = .fields vs) (hsz : 1 < vs.size)
  (h : ∀ h' T', Chg (frs (f :: outer)) a none s.heap h' → Y2 h' a cls (some T') → s.heap.objs.size ≤ T' → s.heap.objs.size ≤ h'.objs.size → Q () { s with heap := h' }) :
  wpAny M A (do let x ← PySem.frameOf env; let pl ← entryPlaceOf L hadNext; let b ← EntryCells.newEntry head x .none (rawInt L) .none pl; setField (.ref a) 1 b) Q E s := by
 have hene : a ∉ (f :: outer).filterMap (·.frame) := fun hm => by
  obtain ⟨_, o, ho, hnf⟩ := hl.mem hm
  rw [he] at ho; injection ho with ho; subst ho; exact hnf vs hd
 refine wpAny_bind (UI hfr hl hfL hf fun h₁ hs₁ => ?_)
 refine wpAny_bind (wpAny_entryPlaceOf fun pl hpl => ?_)
 unfold EntryCells.newEntry newFields
 refine wpAny_bind (wpAny_newObj_type ?_ (hpl.sizeOk5 _ _ _ _ _))
 have he₁ : h₁.get? a = some oe := (hs₁.2.1 a hene).trans he
 generalize hO : ({ cls := .type "traceback", dict := none, data := .fields ([head, .ref L, .none, rawInt L, .none] ++ (if pl.isEmpty then List.replicate 6 Value.none else pl)).toArray } : Obj) = oT
 have hOd : ∃ ts fl, oT.data = .fields ts ∧ ts[3]? = some fl := by
  subst hO
  exact ⟨_, rawInt L, rfl, by simp⟩
 have hOf : oT.isFreed = false := by subst hO; rfl
 have he₂ := Heap.get?_push_of_some (h := h₁) oT he₁
 refine wpAny_setField he₂ hd hsz ?_
 have hTe : h₁.objs.size ≠ a := Nat.ne_of_gt (Heap.lt_size he₁)
 have hd₃ := Obj.data_mapFields hd (·.setIfInBounds 1 (Value.ref h₁.objs.size))
 have he₃ := Heap.get?_update_self (Obj.mapFields (·.setIfInBounds 1 (Value.ref h₁.objs.size))) he₂ (Obj.isFreed_of_fields hd₃)
 have hT₃ := (Heap.get?_update_other (h₁.push oT) (Obj.mapFields (·.setIfInBounds 1 (Value.ref h₁.objs.size))) (Ne.symm hTe)).trans (Heap.get?_push_size h₁ hOf)
 have keep : ∀ b o, b ≠ a → h₁.get? b = some o → ((h₁.push oT).update a (Obj.mapFields (·.setIfInBounds 1 (Value.ref h₁.objs.size)))).get? b = some o := fun b o hbe hb => by
  rw [Heap.get?_update_other _ _ (Ne.symm hbe)]
  exact Heap.get?_push_of_some _ hb
 obtain ⟨ts, fl, g1, g2⟩ := hOd
 refine h _ h₁.objs.size ⟨fun b o e nb ne _ => keep b o ne ((hs₁.2.1 b nb).trans e), fun b o e ne _ => ?_, fun b o e => ?_⟩ ⟨_, _, he₃, ⟨(Obj.cls_mapFields _ _).trans hcl.1, (Y8 _ _).trans hcl.2⟩, hd₃, by simp [hsz], hTe, oT, ts, fl, hT₃, g1, g2⟩ (Nat.le_of_eq hs₁.1.symm) ?_
 ·obtain ⟨sl, z⟩ := hs₁.2.2 b o e
  exact ⟨sl, keep b _ ne z⟩
 ·by_cases z : b = a
  ·subst z
   exact ⟨_, he₃⟩
  ·obtain ⟨sl, q⟩ := hs₁.2.2 b o e
   exact ⟨_, keep b _ z q⟩
 ·show s.heap.objs.size ≤ ((h₁.push oT).update a _).objs.size
  rw [Heap.size_after_update, Heap.size_push, hs₁.1]
  omega
theorem EF {base : Heap} {env f : Env} {outer : List Env} {L : Addr} (hfr : A.frames = some (f :: outer)) (hl : s.heap.FunFrames base (f :: outer)) (hfL : f.frame = some L) (hf : env.frame = some L) (he : Y2 s.heap a cls tb)
  (h : ∀ h' T', Chg (frs (f :: outer)) a tb s.heap h' → Y2 h' a cls (some T') → (tb = some T' ∨ s.heap.objs.size ≤ T') → s.heap.objs.size ≤ h'.objs.size → Q () { s with heap := h' }) : wpAny M A (noteFrame (.ref a) env) Q E s := by
 obtain ⟨oe, vs, h1, hc, h2, h3⟩ := id he
 unfold noteFrame
 simp only [hf]
 cases tb with
 | none =>
  refine wpAny_bind (wpAny_field h1 h2 h3 ?_)
  rw [if_neg (by decide)]
  refine entry_any (cls := cls) hfr hl hfL hf h1 hc h2 (Array.getElem?_eq_some_iff.mp h3).1 fun h' T' c x hT hz => h h' T' ⟨c.keep, c.slot, c.there⟩ x (.inr hT) hz
 | some T =>
  obtain ⟨e1, e2, oT, ts, fl, g1, g2, g3⟩ := h3
  refine wpAny_bind (wpAny_field h1 h2 e1 ?_)
  rw [if_pos (show (Value.ref T != Value.none) = true from by simp)]
  refine wpAny_bind (wpAny_field g1 g2 g3 ?_)
  by_cases hL : (fl == rawInt L) = true
  ·rw [if_pos hL]
   exact wpAny_pure (h s.heap T (.of_keeps fun _ _ e => e) he (.inl rfl) (Nat.le_refl _))
  ·rw [if_neg hL]
   refine wpAny_bind (wpAny_setField g1 g2 (Array.getElem?_eq_some_iff.mp g3).1 ?_)
   have other : ∀ b, b ≠ T → (s.heap.update T (Obj.mapFields (·.setIfInBounds 3 Value.none))).get? b = s.heap.get? b := fun b hb => Heap.get?_update_other _ _ (Ne.symm hb)
   have noRecord : ∀ b o, s.heap.get? b = some o → (∀ vs, o.data ≠ .fields vs) → b ≠ T := fun b o hb hnf q => by
    rw [q, g1] at hb; injection hb with hb; subst hb; exact hnf ts g2
   have thereT : ∃ o', (s.heap.update T (Obj.mapFields (·.setIfInBounds 3 Value.none))).get? T = some o' := ⟨_, Heap.get?_update_self _ g1 (Obj.isFreed_of_fields (Obj.data_mapFields g2 _))⟩
   refine entry_any (s := { s with heap := _ }) (cls := cls) hfr (hl.of_keeps fun b o hb hnf => ⟨o, (other b (noRecord b o hb hnf)).trans hb, rfl⟩) hfL hf ((other a (Ne.symm e2)).trans h1) hc h2 (Array.getElem?_eq_some_iff.mp e1).1 fun h' T' c x hT hz => ?_
   have sz : (s.heap.update T (Obj.mapFields (·.setIfInBounds 3 Value.none))).objs.size = s.heap.objs.size := Heap.size_after_update ..
   rw [sz] at hT hz
   refine h h' T' ⟨fun b o e nb na nT => ?_, fun b o e na nT => ?_, fun b o e => ?_⟩ x (.inr hT) hz
   ·exact c.keep b o ((other b fun z => nT (by rw [z])).trans e) nb na (fun z => nomatch z)
   ·exact c.slot b o ((other b fun z => nT (by rw [z])).trans e) na (fun z => nomatch z)
   ·by_cases z : b = T
    ·subst z
     obtain ⟨o', q⟩ := thereT
     exact c.there _ o' q
    ·exact c.there b o ((other b z).trans e)
end
end DL
namespace DL
open PySem PySem.Spec PyProof.Rows L2 PySem.W
structure Loose (X : Cx) (pins : List (Addr × Obj)) (H : Hp) (b : Addr) : Prop where
 un : H b = none
 new : X.s₀.heap.objs.size ≤ b
 nl : b ≠ X.env.locals
 nc : ∀ x c, X.env.cells.lookup x = some c → c ≠ b
 np : ∀ p ∈ X.pn ++ pins, p.1 ≠ b
theorem Loose.less {X : Cx} {pins : List (Addr × Obj)} {H : Hp} {b : Addr} (l : Loose X pins H b) : Loose X [] H b := ⟨l.un, l.new, l.nl, l.nc, fun p hp => l.np p (by simp only [List.append_nil] at hp; exact List.mem_append_left _ hp)⟩
noncomputable def XSg (X : Cx) (pins : List (Addr × Obj)) (Ξ : Value → L2.St → Hp → Prop) (e : Value) (s' : Shared) : Prop :=
 ∃ a cls tb σ H, e = .ref a ∧ L2.Inv X pins σ H s' ∧ Y2 s'.heap a cls tb ∧ Loose X pins H a ∧ (∀ T, tb = some T → Loose X pins H T) ∧ Ξ cls σ H
noncomputable abbrev XS (X : Cx) (Ξ : Value → Hp → Prop) : Value → Shared → Prop := XSg X [] fun cls _ H => Ξ cls H
noncomputable def XFr (X : Cx) : Prop := ∃ f outer L, X.stack = f :: outer ∧ f.frame = some L ∧ X.env.frame = some L
section
variable {X : Cx} {pins : List (Addr × Obj)} {σ : L2.St} {H : Hp} {s : Shared} {a : Addr} {cls : Value} {tb : Option Addr} {Ξ : Value → Hp → Prop}
theorem Uw {h' : Heap} (I : L2.Inv X pins σ H s) (he : Y2 s.heap a cls tb) (la : Loose X pins H a) (lt : ∀ T, tb = some T → Loose X pins H T) (c : Chg (frs X.stack) a tb s.heap h') : L2.Inv X pins σ H { s with heap := h' } := by
 have nch : ∀ b, b ∉ a :: tb.toList → b ≠ a ∧ tb ≠ some b := fun b hb => ⟨fun z => hb (by rw [z]; exact List.mem_cons_self), fun z => hb (by rw [z]; simp)⟩
 have trk : ∀ b u, H b = some u → b ∉ frs X.stack ∧ b ≠ a ∧ tb ≠ some b := fun b u e => ⟨fun z => (by rw [I.W0 b z] at e; cases e), fun z => (by rw [z, la.un] at e; cases e), fun z => (by rw [(lt b z).un] at e; cases e)⟩
 refine I.call (ch := a :: tb.toList) (g' := s.gens) (d' := s.drawn) (t' := s.toks) ⟨fun b o e _ hb hx => c.keep b o e hb (nch b hx).1 (nch b hx).2, fun b o e _ _ hx => c.slot b o e (nch b hx).1 (nch b hx).2, fun _ _ _ n _ => n, fun b o e _ => c.there b o e, fun _ _ q => q, fun _ _ _ q => q, fun _ ps q => ⟨#[], by rw [q]; simp⟩⟩ (fun b u e => ?_) I.bare fun b hb => ?_
 ·refine (I.hok b u e).Eu (fun d v hc q => ?_) (fun _ q => q) fun _ _ q => q
  obtain ⟨n1, n2, n3⟩ : d ∉ frs X.stack ∧ d ≠ a ∧ tb ≠ some d := by
   rcases hc with z | z
   ·rw [z]; exact trk b u e
   ·exact trk d _ z
  exact c.keep d v q n1 n2 n3
 ·have l : Loose X pins H b := by
   rcases List.mem_cons.mp hb with z | z
   ·rw [z]; exact la
   ·exact lt b (by simpa using z)
  exact ⟨.inr l.new, l.nl, l.nc, l.np⟩
theorem QU (I : L2.Inv X pins σ H s) {H' : Hp} {b : Addr} (h : H' b = none) (hb : s.heap.objs.size ≤ b) : Loose X pins H' b := by
 refine ⟨h, Nat.le_trans I.sz hb, fun z => absurd I.lt (by rw [← z]; exact Nat.not_lt.mpr hb), fun x c e z => ?_, fun p hp z => ?_⟩
 ·obtain ⟨v, o, ho, _⟩ := I.cell x c e
  rw [z] at ho
  exact absurd (Heap.lt_size ho) (Nat.not_lt.mpr hb)
 ·have ho := (I.pin p hp).1
  rw [z] at ho
  exact absurd (Heap.lt_size ho) (Nat.not_lt.mpr hb)
theorem Inv.XW (I : L2.Inv X pins σ H s) : L2.Inv X [] σ H s := I.Ve fun p hp => nomatch hp
variable {Ξg : Value → L2.St → Hp → Prop}
theorem UA {M : Model} {E : Value → Shared → Prop} {e : Value} {Q : Unit → Shared → Prop} (hX : XFr X) (h : XSg X pins Ξg e s) (hq : ∀ s', XSg X pins Ξg e s' → (∃ a T cls, e = .ref a ∧ Y2 s'.heap a cls (some T)) → Q () s') : wpAny M X.A (noteFrame e X.env) Q E s := by
 obtain ⟨a, cls, tb, σ, H, rfl, I, he, la, lt, hΞ⟩ := h
 obtain ⟨f, outer, L, hs, hfL, hf⟩ := hX
 have fr := I.ok.frames
 have st := I.stack
 rw [hs] at fr st
 refine EF fr st hfL hf he fun h' T' c x hT hz => ?_
 have I' := Uw I he la lt (by rw [hs]; exact c)
 refine hq _ ⟨a, cls, some T', σ, H, rfl, I', x, la, fun T e => ?_, hΞ⟩ ⟨a, T', cls, rfl, x⟩
 cases e
 rcases hT with z | z
 ·exact lt _ z
 ·exact QU I (I.hok.fresh z) z
theorem Cf {M : Model} {E : Value → Shared → Prop} {e : Value} {g : Option Addr} {Q : Unit → Shared → Prop} (h : XSg X pins Ξg e s) (hq : ∀ s', XSg X pins Ξg e s' → (∀ a T cls, e = .ref a → Y2 s.heap a cls (some T) → Y2 s'.heap a cls (some T)) → Q () s') : wpAny M X.A (setFlight e g) Q E s := by
 obtain ⟨a, cls, tb, σ, H, rfl, I, he, la, lt, hΞ⟩ := h
 refine Eh he fun h' c x _ => ?_
 have c' : Chg (frs X.stack) a tb s.heap h' := ⟨fun b o e _ => c.keep b o e (fun z => nomatch z), c.slot, c.there⟩
 refine hq _ ⟨a, cls, tb, σ, H, rfl, Uw I he la lt c', x, la, lt, hΞ⟩ fun a' T cls' e y => ?_
 cases e
 obtain ⟨oe, vs, h1, hc, h2, h3⟩ := id he
 obtain ⟨oe', vs', k1, kc, k2, k3⟩ := y
 rw [h1] at k1
 cases k1
 rw [h2] at k2
 cases k2
 cases tb with
 | none => exact absurd (h3.symm.trans k3.1) (by simp)
 | some T2 =>
  have e2 := h3.1.symm.trans k3.1
  simp only [Option.some.injEq, Value.ref.injEq] at e2
  subst e2
  rw [← kc.1, hc.1]
  exact x
theorem FO {M : Model} {E : Value → Shared → Prop} {e : Value} {Q : Unit → Shared → Prop} (hX : XFr X) (h : XSg X pins Ξg e s) (hq : ∀ s', XSg X pins Ξg e s' → Q () s') : wpAny M X.A (leaving X.env e) Q E s := by
 unfold leaving
 exact wpAny_bind (UA hX h fun s' h' _ => Cf h' fun s'' h'' _ => hq s'' h'')
end
noncomputable def CX1 (P : Program) (w : World) : CXT := fun outer H s E e s' => ∃ a cls tb H', e = .ref a ∧ s'.os = s.os ∧ AllBare s'.gens ∧ Un (frs outer) [] H H' s.heap s'.heap ∧ HOk P w H' s'.heap ∧ Y2 s'.heap a cls tb ∧
 (H' a = none ∧ s.heap.objs.size ≤ a) ∧ (∀ T, tb = some T → H' T = none ∧ s.heap.objs.size ≤ T) ∧ E cls none H'
theorem Zbo {X : Cx} {Ξ : Value → Hp → Prop} {E : XK} (hE : ∀ cls H, E cls none H → Ξ cls H) : Passes (CX1 X.prog X.w) (X.Jm (XS X Ξ)) E := fun pins σ H s e s' I hq => by
 obtain ⟨a, cls, tb, H', rfl, os, bare, un, hok, he, ⟨h1, h2⟩, h3, q⟩ := hq
 have I' : L2.Inv (X.Jm (XS X Ξ)) pins σ H' s' := I.CU (ch := []) os un hok bare fun b z => nomatch z
 exact ⟨a, cls, tb, σ, H', rfl, (Inv.XW I'.Qd), he, (QU I.Qd h1 h2).less, fun T e => (QU I.Qd (h3 T e).1 (h3 T e).2).less, hE _ _ q⟩
theorem S8 {P : Program} {w : World} {K : PySem.W.Frag} {mg : Str → Option Value} {base : Heap} {N : List Str} {qual : Str} {scope : Scope} {f : Addr} {cd : Value} {A : Around} {outer : List Env} {s : Shared} {H : Hp} {E : XK} {CX : CXT} {Ξ : Value → Hp → Prop} (hΞ : ∀ cls H', Ξ cls H' → E cls none H') {e : Value} {s' : Shared}
  (h : XS (G6 CX P w K mg base N qual scope f cd A outer s H E) Ξ e s') : CX1 P w outer H s E e s' := by
 obtain ⟨a, cls, tb, σ, H', rfl, I, he, la, lt, q⟩ := h
 exact ⟨a, cls, tb, H', rfl, I.os, I.bare, I.base, I.hok, he, ⟨la.un, la.new⟩, fun T e => ⟨(lt T e).un, (lt T e).new⟩, hΞ _ _ q⟩
theorem Zbb {P : Program} {w : World} {K : PySem.W.Frag} {mg : Str → Option Value} {base : Heap} {N : List Str} {qual : Str} {scope : Scope} {f : Addr} {cd : Value} {A : Around} {outer : List Env} {s : Shared} {H : Hp} {E : XK} {Ξ : Value → Hp → Prop} (hΞ : ∀ cls H', Ξ cls H' → E cls none H') {e : Value} {s' : Shared}
  (h : XS (G6 (CX1 P w) P w K mg base N qual scope f cd A outer s H E) Ξ e s') : (G6 (CX1 P w) P w K mg base N qual scope f cd A outer s H E).xe e s' :=
 FO (X := G6 (CX1 P w) P w K mg base N qual scope f cd A outer s H E) ⟨_, _, _, rfl, rfl, rfl⟩ h fun s'' h'' => S8 hΞ h''
section
variable {X : Cx} {Ξ : Value → Hp → Prop} {x : Str} {C : Addr} {B newId initId : String} {bm : List Value} {np cpos pos : Pos} {e₀ : Expr} {t : TA}
theorem E3 (O : OwnCls x C bm newId X.mg X.base) (FB : ExcBaseFacts B newId initId bm) (hc : X.calm = true) (hg : Gl (X.Jm (XS X Ξ)) x) (ha : PA (X.Jm (XS X Ξ)) [e₀] t) (he : starEach [e₀] X.env = [(false, eval e₀ X.env)] := by rfl) (hd : (x == ("__debug__" : Str)) = false := by decide) :
  PS (X.Jm (XS X Ξ)) (.Raise (some (.Call (.Name x np) [e₀] [] cpos)) none pos) (fun _ σ H => t σ H fun vs H1 => vs.length ≤ sizeLine ∧ Ξ (.ref C) H1) := by
 intro pins s σ H D I h
 obtain ⟨tl, N, nm, q, bs, hdct, sn, sub, ab, col, dd, k0, k1, k2, k3, k5, mN, hC, hN, hni, T⟩ := O.obj
 refine GV (C := C) (nm := nm) (q := q) (N := N) (bs := bs) (bm := tl) (hdct := hdct) (sn := sn) (sub := sub) (ab := ab) (col := col) (dd := dd) (k0 := k0) (k1 := k1) (k2 := k2) (k3 := k3) (k5 := k5)
  FB (mN := mN) (T.hasType FB.hasBase) (I.ok.hd hc) (by rw [show starEach [e₀] (X.Jm (XS X Ξ)).env = _ from he]; rfl) hni (Yf I hg O.bound ⟨rfl, ?_⟩ hd)
 have ha' := ha cpos pins s σ H _ I h
 rw [show starEach [e₀] (X.Jm (XS X Ξ)).env = [(false, eval e₀ X.env)] from he] at ha' ⊢
 refine Calls.evalArgs_plain (wpAny_mono ha' (fun us s₂ h₂ => ?_) fun _ _ y => y)
 obtain ⟨vs, H1, I1, r1, hl, hΞ⟩ := h₂
 have len : us.length ≤ sizeLine := by have := r1.length; omega
 refine ⟨rfl, len, I1.bk _ _ hC, hN.keeps I1.bk, T.keeps I1.bk, fun h' e mk hsz => ?_⟩
 obtain ⟨tt, ht, _, _⟩ := mk.there
 have I2 : L2.Inv X [] σ H1 { s₂ with heap := h' } := Inv.XW (I1.Qd.kept (t' := s₂.toks) mk.keeps)
 exact ⟨e, .ref C, none, σ, H1, rfl, I2, ⟨_, _, ht, ⟨rfl, rfl⟩, rfl, rfl⟩, (QU I1.Qd (I1.hok.fresh hsz) hsz).less, fun T z => (nomatch z), hΞ⟩
end
end DL
namespace DL
open PySem PySem.Spec PyProof.Rows L2
section
variable {prog : Program} {w : World} {A : Around} {R : Result → Shared → Prop} {s : Shared}
theorem Kb {elt target iter : Expr} {ifs : List Expr} {scope : Scope} {pos : Pos} {it acc : Value} {env : Env} (I : Nat → Shared → Prop) {EI : Value → Shared → Prop} (hEI : ∀ x s', EI x s' → notedBy (model prog w) A env (fun x s' => R (.error x) s') x s')
  (turn : ∀ n s, I n s → wpAny (model prog w) A (pyNext it) (fun r s₁ => match r with
   | none => R (.ok .next) s₁
   | some v => wpAny (model prog w) A (letOwnedTupleGo target it v) (fun _ s₁' => wpAny (model prog w) A (assign target env v) (fun _ s₂ =>
     wpAny (model prog w) A (forIn ifs true fun c r => if r = true then do let ok ← isTrue c env (eval c env); pure (ForInStep.yield ok) else pure (ForInStep.yield r)) (fun ok s₃ =>
      if ok = true then wpAny (model prog w) A (eval elt env) (fun x s₄ =>
       wpAny (model prog w) A (call (.builtin "list.append") [acc, x]) (fun _ s₅ => ∃ m, m < n ∧ I m s₅) EI s₄) EI s₃
      else ∃ m, m < n ∧ I m s₃) EI s₂) EI s₁') EI s₁) EI s)
  (n : Nat) (h : I n s) : codeAny (model prog w) A (.compLoop (.ListComp elt [⟨target, iter, ifs, 0⟩] scope pos) 0 it acc env) R s := by
 refine codeAny_loop rfl I (fun n s hI => ?_) n h
 show wpAny _ A ((compTurn (.ListComp elt [⟨target, iter, ifs, 0⟩] scope pos) 0 it acc env).onRaise (fun x => do noteFrame x env; theTreesLotGoes x)) _ _ s
 refine wpAny_noted ?_
 rw [compTurn_list]
 refine wpAny_bind (wpAny_standAt (wpAny_bind (wpAny_mono (turn n s hI) (fun r s₁ h₁ => ?_) hEI)))
 cases r with
 | none => exact wpAny_pure h₁
 | some v =>
  refine wpAny_bind (wpAny_mono h₁ (fun _ s₁' h₁' => ?_) hEI)
  refine wpAny_bind (wpAny_mono h₁' (fun _ s₂ h₂ => wpAny_bind (wpAny_mono h₂ (fun ok s₃ h₃ => ?_) hEI)) hEI)
  cases ok with
  | false => exact wpAny_pure ⟨rfl, h₃⟩
  | true =>
   exact wpAny_bind (wpAny_bind (wpAny_mono h₃ (fun x s₄ h₄ => wpAny_bind (wpAny_mono h₄ (fun _ s₅ h₅ => wpAny_pure (wpAny_pure ⟨rfl, h₅⟩)) hEI)) hEI))
end
section
variable {X : Cx}
set_option maxHeartbeats 2000000 in
theorem Bv {XI : Addr → List Addr → Shared → Hp → Value → Shared → Prop} {elt tg iter : Expr} {ifs : List Expr} {scope : Scope} {pos ps : Pos} {src : VB} {N : List Str} {ix : List (Option Nat)} {g : DTG} {tc : DTT} {te : DTE} {use : Option (Value → Sem Unit)} {QQ : Value → Shared → Prop} {ψ : List PyData → Mp → Prop} (ok : JV X scope N ix) (hi : DI X tg iter src)
  (hg : ∀ C ex s H, DG ((Zn X scope C N ex s H).Jm (XI C ex s H)) tg g) (ht : ∀ C ex s H, DTs ((Zn X scope C N ex s H).Jm (XI C ex s H)) ifs tc) (he : ∀ C ex s H, DE ((Zn X scope C N ex s H).Jm (XI C ex s H)) elt te) (hc : X.calm = true)
  (hs : ∀ x, foldedSetIterable iter X.env x = pure x) {σ : L2.St} {H : Hp} {Δ : DSt} {M : Mp} {pins : List (Addr × Obj)} {s : Shared} (dr : ZE X.K M H) (er : QD X.K M H σ Δ) (h : src Δ M fun ds M1 => CompSrc ds M1 Δ ix g tc te ψ) (I : L2.Inv X pins σ H s)
  (hfin : ∀ (s4 : Shared) (C D : Addr) (H' : Hp) (M' : Mp) (vs : List V) (acc : List PyData), L2.Inv X pins σ (upd H' D (.lst vs)) s4 → H' D = none → ZE X.K M' H' → Step M H M' H' → Dts X.K M' H' vs acc → ψ acc M' → (∃ m, s4.heap.Ns C m) → WL X pins (upd H' D (.lst vs)) C →
   compPost (model X.prog X.w) X.A X.xe use QQ (.ref D) C (.ok .next) s4)
  (hxe : ∀ (C : Addr) (fp : List Addr) (s2 : Shared) (H2 : Hp) (acc : Value), L2.Inv X pins σ H2 s2 → (∀ b ∈ fp, WL X pins H2 b) → s2.heap.objs.size ≤ C → ∀ e s', XI C fp s2 H2 e s' →
   notedBy (model X.prog X.w) X.A (compEnvC scope (UK X.env scope.names []) C X.env) (fun x s' => compPost (model X.prog X.w) X.A X.xe use QQ acc C (.error x) s') e s') :
  wpAny (model X.prog X.w) X.A (comprehension (.ListComp elt [⟨tg, iter, ifs, 0⟩] scope pos) scope X.env ps (newList []) false (eval iter X.env) use) QQ X.xe s := by
 obtain ⟨wi, pi, qi⟩ := hi
 refine wpAny_comprehension_free (use := use) (cl := UK X.env scope.names []) rfl hs (Jz (MA ok I)) ok.kind ok.names ?_
 show wpAny _ _ (eval iter X.env) _ _ s
 refine thn (pi pins s σ H (fun J H' => ∃ M' ds, ZE X.K M' H' ∧ Step M H M' H' ∧ Yl X.K J ds M' H' ∧ ds.length ≤ sizeLine ∧ ∃ W : Nat → List PyData → Mp → Prop, W 0 [] M' ∧
   (∀ i d acc M', ds[i]? = some d → W i acc M' → g (.dat d) (WM ix Δ) M' fun Δ2 M2 => tc Δ2 M2 fun b M3 => if b = true then te Δ2 M3 fun y M4 => onD y fun e => W (i + 1) (acc ++ [e]) M4 else W (i + 1) acc M3) ∧
   ∀ acc M', W ds.length acc M' → ψ acc M') I (qi σ H Δ M _ _ dr er h fun J H' M' ds a b c d => ⟨M', ds, a, b, c, d⟩)) fun x s1 h1 => thn h1 fun itv s2 h2 => ?_
 obtain ⟨it, fp, tn, J, H2, e, I2, T, st2, f2, M1, ds, dr1, stp, yl, hz, W, w0, wt, wd⟩ := h2
 subst e
 have exo : ∀ b ∈ fp, ∃ o, s2.heap.get? b = some o := fun b hb => let ⟨o, q, _⟩ := T.obj 0 _ st2 b hb; ⟨o, q⟩
 refine wpAny_newObj_type (wpAny_newFunctionEnv ok.cellF (by intro y hy; simp at hy) (fun h₁ hns₁ hsb₁ => ?_) ok.kind)
 dsimp only at hns₁ hsb₁ ⊢
 generalize hH2 : s2.heap.push { cls := .type "list", dict := none, data := .seq ([] : List Value).toArray } = HH at hns₁ hsb₁ ⊢
 have hC : HH.objs.size = s2.heap.objs.size + 1 := by rw [← hH2, Heap.size_push]
 have hDC : s2.heap.objs.size ≠ HH.objs.size := by rw [hC]; exact Nat.ne_of_lt (Nat.lt_succ_self _)
 have hCle : s2.heap.objs.size ≤ HH.objs.size := by rw [hC]; exact Nat.le_succ _
 have below : ∀ b, b < s2.heap.objs.size → b ≠ HH.objs.size ∧ b ≠ s2.heap.objs.size := fun b hb => ⟨by rw [hC]; exact Nat.ne_of_lt (Nat.lt_succ_of_lt hb), Nat.ne_of_lt hb⟩
 have old : ∀ b o, s2.heap.get? b = some o → h₁.get? b = some o := fun b o e => hsb₁.extBut b o (below b (Heap.lt_size e)).1 (Heap.get?_push_of_some _ (hH2 ▸ Heap.get?_push_of_some _ e))
 have hacc : h₁.get? s2.heap.objs.size = some { cls := .type "list", data := .seq ([] : List Value).toArray } := hsb₁.extBut _ _ hDC (Heap.get?_push_of_some _ (hH2 ▸ Heap.get?_push_size _ rfl))
 generalize hCC : HH.objs.size = C at *
 generalize hDD : s2.heap.objs.size = D at hDC hacc below hCle
 have hDs : s2.heap.objs.size ≤ D := Nat.le_of_eq hDD
 have hCs : s2.heap.objs.size ≤ C := by rw [hDD]; exact hCle
 have fD : ∀ b ∈ fp, b ≠ D ∧ b ≠ C := fun b hb => by
  obtain ⟨o, q⟩ := exo b hb
  exact ⟨(below b (by rw [← hDD]; exact Heap.lt_size q)).2, (below b (by rw [← hDD]; exact Heap.lt_size q)).1⟩
 have okY : ((Zn X scope C N fp s2 H2).Jm (XI C fp s2 H2)).Ok := (Y9 ok I2 f2 exo hCs).Jm _
 have fsD : ∀ b ∈ frs X.stack, b < s2.heap.objs.size := fun b hb => by
  obtain ⟨_, o, ho, _⟩ := I2.stack.mem hb
  exact Heap.lt_size ho
 have cellD : ∀ x c, ((Zn X scope C N fp s2 H2).Jm (XI C fp s2 H2)).env.cells.lookup x = some c → c < s2.heap.objs.size ∧ H2 c = none := fun x c e => by
  have e' := (Z7 (MA ok I2) e).1
  obtain ⟨v, q⟩ := I2.cell x c e'
  exact ⟨q.lt, I2.freeC x c e'⟩
 have fpY : ∀ {H' : Hp} {ps : List (Addr × Obj)}, (∀ b ∈ fp, H' b = none) → (∀ p ∈ ps, p.1 = D) → ∀ b ∈ fp, WL ((Zn X scope C N fp s2 H2).Jm (XI C fp s2 H2)) ps H' b := fun {H' ps} hn hp b hb =>
  ⟨hn b hb, (fD b hb).2, okY.exfs b hb, .inl hb, (okY.exf b hb).2, fun p hp' z => by
   have q : p ∈ ps := hp'
   rw [hp p q] at z
   exact (fD b hb).1 z.symm⟩
 have Ku : ∀ (o : Obj), ∀ p ∈ [(D, o)], p.1 = D := fun o p hp => by
  have q : p = (D, o) := by simpa using hp
  rw [q]
 have reloc : ∀ {ps : List (Addr × Obj)} {σ' : L2.St} {H' : Hp} {s' : Shared} {o : Obj}, L2.Inv ((Zn X scope C N fp s2 H2).Jm (XI C fp s2 H2)) ps σ' H' s' → s'.heap.get? D = some o → H' D = none → (∀ v, o.data ≠ .cell v) →
   L2.Inv ((Zn X scope C N fp s2 H2).Jm (XI C fp s2 H2)) [(D, o)] (Ql ix σ) H' s' := fun {ps σ' H' s' o} J' hD hn hd => by
  obtain ⟨m, hm, _⟩ := J'.loc
  refine ⟨J'.ok, J'.os, J'.bare, J'.base, ⟨m, hm, fun i x v a b _ => V6 ok I2 f2 J'.base i x v a b⟩, J'.cell, J'.free, J'.freeC, fun p hp => ?_, J'.hok, ?_⟩
  ·have q : p = (D, o) := by
    have z : p ∈ ([] : List (Addr × Obj)) ++ [(D, o)] := hp
    simpa using z
   subst q
   exact ⟨hD, hn, hDC, fun z => absurd (fsD D z) (Nat.not_lt.mpr hDs), hd⟩
  ·show (Ql ix σ).length = N.length
   unfold Ql
   rw [List.length_map, ok.len]
 have start : L2.Inv ((Zn X scope C N fp s2 H2).Jm (XI C fp s2 H2)) [(D, { cls := .type "list", data := .seq ([] : List Value).toArray })] (Ql ix σ) H2 { s2 with heap := h₁, toks := s2.toks + ([] : List (Str × Value)).length } := by
  refine ⟨okY, rfl, I2.bare, Un.kept old, ⟨_, hns₁, fun i x v a b _ => V6 ok I2 f2 (Un.kept old) i x v a b⟩, fun x c e => ?_, I2.hok.fresh hCs, fun x c e => (cellD x c e).2, fun p hp => ?_, I2.hok.kept old, ?_⟩
  ·obtain ⟨v, o, ho, hd⟩ := I2.cell x c (Z7 (MA ok I2) e).1
   exact ⟨v, o, old c o ho, hd⟩
  ·have q : p = (D, { cls := .type "list", data := .seq ([] : List Value).toArray }) := by
    have z : p ∈ ([] : List (Addr × Obj)) ++ [(D, { cls := .type "list", data := .seq ([] : List Value).toArray })] := hp
    simpa using z
   subst q
   exact ⟨hacc, I2.hok.fresh hDs, hDC, fun z => absurd (fsD D z) (Nat.not_lt.mpr hDs), fun v z => nomatch z⟩
  ·show (Ql ix σ).length = N.length
   unfold Ql
   rw [List.length_map, ok.len]
 have loop : ∀ s₃ : Shared, s₃ = { s2 with heap := h₁, toks := s2.toks + ([] : List (Str × Value)).length } →
   codeAny (model X.prog X.w) X.A (.compLoop (.ListComp elt [⟨tg, iter, ifs, 0⟩] scope pos) 0 (.ref it) (.ref D) (compEnvC scope (UK X.env scope.names []) C X.env)) (compPost (model X.prog X.w) X.A X.xe use QQ (.ref D) C) s₃ := by
  rintro s₃ rfl
  refine Kb (EI := XI C fp s2 H2) (hEI := hxe C fp s2 H2 (.ref D) I2 f2 hCs) (fun n s' => ∃ (i : Nat) (acc : List PyData) (vs : List V) (its : List Value) (nn : Nat) (H' : Hp) (M' : Mp), L2.Inv ((Zn X scope C N fp s2 H2).Jm (XI C fp s2 H2)) [(D, { cls := .type "list", data := .seq its.toArray nn })] (Ql ix σ) H' s' ∧
   tn i s'.heap ∧ (∀ b ∈ fp, H' b = none) ∧ ZE X.K M' H' ∧ Step M1 H2 M' H' ∧ Vals vs its ∧ Dts X.K M' H' vs acc ∧ W i acc M' ∧ i ≤ ds.length ∧ acc.length ≤ i ∧ n = ds.length - i) ?_ ds.length
   ⟨0, [], [], [], 0, H2, M1, start, T.keep _ _ _ st2 (fun b _ o e => old b o e), fun b hb => (f2 b hb).1, dr1, Step.refl, .nil, .nil, w0, Nat.zero_le _, Nat.le_refl _, rfl⟩
  rintro n s' ⟨i, acc, vs, its, nn, H', M', IY, ti, fr, dr', stp', rv, rd, wi', hil, hal, rfl⟩
  have pinD := IY.pin (D, { cls := .type "list", data := .seq its.toArray nn }) (by simp)
  have fok := fpY (ps := [(D, { cls := .type "list", data := .seq its.toArray nn })]) fr (Ku _)
  obtain ⟨ygo, ystop⟩ := yl M' H' stp' i
  by_cases hlt : i < ds.length
  ·obtain ⟨jgo, jyl⟩ := ygo hlt
   refine thn (T.item ((Zn X scope C N fp s2 H2).Jm (XI C fp s2 H2)) rfl rfl rfl hc i _ s' (Ql ix σ) H' (XI C fp s2 H2) IY fok ti jgo) fun r s4 ⟨u, hr, h4⟩ => ?_
   subst hr
   refine thn h4 fun _ s5 ⟨x, H5, I5, r5, y5, st5, fr5⟩ => ?_
   obtain ⟨dr5, stp5, d, hd, hxd⟩ := jyl x H5 y5 dr'
   replace dr' := dr5
   replace stp' := stp'.trans stp5
   replace rd := rd.step stp5
   have I5' := I5.pinned (fpY (ps := [(D, { cls := .type "list", data := .seq its.toArray nn })]) fr5 (Ku _)) (T.obj _ _ st5)
   obtain ⟨tg', pg, qg⟩ := hg C fp s2 H2
   refine thn (pg _ s5 (Ql ix σ) H5 x u (fun σ6 H6 => ∃ Δ6 M6, ZE X.K M6 H6 ∧ Step M' H5 M6 H6 ∧ QD X.K M6 H6 σ6 Δ6 ∧ tc Δ6 M6 fun b M3 => if b = true then te Δ6 M3 fun y M4 => onD y fun e => W (i + 1) (acc ++ [e]) M4 else W (i + 1) acc M3) I5' r5
    (qg x (Ql ix σ) H5 (.dat d) (WM ix Δ) M' _ _ dr' ((er.step (stp.trans stp')).cap ix) hxd (wt i d acc M' hd wi') fun σ6 H6 Δ6 M6 a b c d => ⟨Δ6, M6, a, b, c, d⟩)) fun _ s6 ⟨σ6, H6, I6, Δ6, M6, dr6, stp6, er6, q6⟩ => ?_
   refine thn (ht C fp s2 H2 _ s6 σ6 H6 Δ6 M6 _ I6 dr6 er6 q6) fun b s7 ⟨H7, M7, I7, dr7, stp7, q7⟩ => ?_
   have keepD : ∀ {σz : L2.St} {Hz : Hp} {sz : Shared}, L2.Inv ((Zn X scope C N fp s2 H2).Jm (XI C fp s2 H2)) ([(D, { cls := .type "list", data := .seq its.toArray nn })] ++ Xl fp s5.heap) σz Hz sz →
     sz.heap.get? D = some { cls := .type "list", data := .seq its.toArray nn } ∧ Hz D = none ∧ tn (i + 1) sz.heap ∧ ∀ b ∈ fp, Hz b = none := fun {σz Hz sz} Iz => by
    have a := Iz.pin (D, { cls := .type "list", data := .seq its.toArray nn }) (by simp)
    refine ⟨a.1, a.2.1, T.keep _ _ _ st5 fun b hb o e => (Iz.pin (b, o) (List.mem_append_right _ (List.mem_append_right _ (QG hb e)))).1, fun b hb => ?_⟩
    obtain ⟨o, e, _⟩ := T.obj _ _ st5 b hb
    exact (Iz.pin (b, o) (List.mem_append_right _ (List.mem_append_right _ (QG hb e)))).2.1
   cases b with
   | false =>
    have q7' : W (i + 1) acc M7 := by simpa using q7
    obtain ⟨a1, a2, a3, a4⟩ := keepD I7
    have st17 : Step M' H5 M7 H7 := stp6.trans stp7
    exact ⟨ds.length - (i + 1), by omega, i + 1, acc, vs, its, nn, H7, M7, reloc I7 a1 a2 (fun v z => nomatch z), a3, a4, dr7, stp'.trans st17, rv, rd.step st17, q7', hlt, by omega, rfl⟩
   | true =>
    have q7' : te Δ6 M7 fun y M4 => onD y fun e => W (i + 1) (acc ++ [e]) M4 := by simpa using q7
    obtain ⟨te', pe', qe'⟩ := he C fp s2 H2
    refine thn (pe' _ s7 σ6 H7 (fun v H8 => ∃ e M8, ZE X.K M8 H8 ∧ Step M7 H7 M8 H8 ∧ Dt X.K M8 H8 v e ∧ W (i + 1) (acc ++ [e]) M8) I7 (qe' σ6 H7 Δ6 M7 _ _ dr7 (er6.step stp7) q7' fun v H8 x8 M8 a b c d => by
     replace d := Qa d
     obtain ⟨e, rfl, w8⟩ := d
     exact ⟨e, M8, a, b, c, w8⟩)) fun y s8 ⟨v, H8, I8, r8, e, M8, dr8, stp8, dv8, w8⟩ => ?_
    obtain ⟨a1, a2, a3, a4⟩ := keepD I8
    have st18 : Step M' H5 M8 H8 := stp6.trans (stp7.trans stp8)
    have lv := rv.length
    have ld := rd.length
    refine call_meets PySem.F.slot_list_append ⟨_, a1, rfl⟩ PySem.F.entry_list_append (PySem.F.args_list_append_2 _ _) (PySem.list_append D its.toArray nn y (by rw [List.size_toArray]; omega)) ⟨a1, ?_⟩
    have q := PySem.IsL.update a1 (·.push y)
    have I8' : L2.Inv ((Zn X scope C N fp s2 H2).Jm (XI C fp s2 H2)) [] σ6 H8 s8 := I8.Ve fun p hp => nomatch hp
    have I9 := I8'.turned (it := D) (h' := s8.heap.update D (Obj.mapSeq (·.push y))) (t' := s8.toks) (fun b o hb hu => (Heap.get?_update_other s8.heap (Obj.mapSeq (·.push y)) (Ne.symm hb)).trans hu) a2 hDC (.inr hDs)
     (fun x c e z => absurd (z ▸ (cellD x c e).1) (Nat.not_lt.mpr hDs)) (fun p hp => by have z : p ∈ ([] : List (Addr × Obj)) ++ [] := hp; simp at z)
    have ea : (its.toArray.push y) = (its ++ [y]).toArray := by simp
    rw [ea] at q
    refine ⟨ds.length - (i + 1), by omega, i + 1, acc ++ [e], vs ++ [v], its ++ [y], _, H8, M8, reloc I9 q a2 (fun v z => nomatch z), T.keep _ _ _ a3 (fun b hb o e => (Heap.get?_update_other s8.heap (Obj.mapSeq (·.push y)) (Ne.symm (fD b hb).1)).trans e), a4, dr8, stp'.trans st18,
     rv.append (.cons r8 .nil), (rd.step st18).append (.cons dv8 .nil), w8, hlt, by rw [List.length_append, List.length_singleton]; omega, rfl⟩
  ·have hie : i = ds.length := by omega
   refine thn (T.done ((Zn X scope C N fp s2 H2).Jm (XI C fp s2 H2)) rfl rfl rfl hc i _ s' (Ql ix σ) H' (XI C fp s2 H2) IY fok ti (ystop (by omega))) fun r s4 ⟨hr, I4⟩ => ?_
   subst hr
   obtain ⟨m4, hm4, _⟩ := I4.loc
   have pD := I4.pin (D, { cls := .type "list", data := .seq its.toArray nn }) (by simp)
   have hCn : H' C = none := I4.free
   have hDn : H' D = none := pD.2.1
   have hok4 : HOk X.prog X.w (upd H' D (.lst vs)) s4.heap := fun b u e => by
    by_cases hb : b = D
    ·subst hb
     rw [ZT] at e
     cases e
     exact ⟨by have := rv.length; have := rd.length; omega, its, nn, rv, pD.1⟩
    ·rw [Zq hb] at e
     refine (I4.hok b u e).Eu (fun c v hc' q => q) (fun c q => ?_) fun c xs q => ?_
     ·rw [Zq (Zl q pD.2.1)]; exact q
     ·rw [Zq (Zl q pD.2.1)]; exact q
   have bu : Un (frs X.stack) fp H2 H' s2.heap s4.heap := I4.base
   have un4 : Un (frs X.stack) fp H2 (upd H' D (.lst vs)) s2.heap s4.heap := by
    have nD : ∀ b o, s2.heap.get? b = some o → b ≠ D ∧ b ≠ C := fun b o e => ⟨fun z => absurd (z ▸ Heap.lt_size e) (Nat.not_lt.mpr hDs), fun z => absurd (z ▸ Heap.lt_size e) (Nat.not_lt.mpr hCs)⟩
    refine ⟨fun b o e n hb hx => bu.keep b o e n hb hx, fun b o e n hb hx => bu.slot b o e n hb hx, fun b o e n hx => by rw [Zq (nD b o e).1]; exact bu.free b o e n hx, fun b o e hx => bu.there b o e hx, fun b xs e => ?_, fun b o xs e => ?_, fun b ps e => ?_⟩
    ·have q := bu.tups b xs e
     rw [Zq (Zl q pD.2.1)]; exact q
    ·have q := bu.frzs b o xs e
     rw [Zq (Zl q pD.2.1)]; exact q
    ·obtain ⟨mo, q⟩ := bu.tbls b ps e
     exact ⟨mo, by rw [Zq (Zl q pD.2.1)]; exact q⟩
   have os4 : s4.os = s2.os := I4.os
   have IX : L2.Inv X pins σ (upd H' D (.lst vs)) s4 := I2.CU (s' := s4) os4 un4 hok4 I4.bare fun b hb => ⟨(f2 b hb).2.2.2.1, (f2 b hb).2.1, (f2 b hb).2.2.2.2.1, (f2 b hb).2.2.2.2.2⟩
   subst hie
   exact hfin s4 C D H' M' vs acc IX hDn dr' (stp.trans stp') rd (wd acc M' wi') ⟨m4, hm4⟩ (I2.OY hCs (by rw [Zq (Ne.symm hDC)]; exact hCn))
 have hst₁ : tn 0 h₁ := T.keep _ _ _ st2 fun b _ o e => old b o e
 exact codeAny_compStart_list (loop _ rfl) (T.self _ 0 _ _ _ hst₁ (loop _ rfl))
end
end DL
namespace DL
open PySem PySem.Spec PyProof.Rows L2 PySem.W
noncomputable abbrev wx (X : Cx) (Ξ : Value → Hp → Prop) : Cx := X.Jm (XS X Ξ)
theorem Y2.C2 {h : Heap} {a C : Addr} {cls : Value} {tb : Option Addr} {m : Str → Option Value} (x : Y2 h a cls tb) (n : h.Ns C m) : a ≠ C ∧ ∀ T, tb = some T → T ≠ C := by
 obtain ⟨o, es, ep, ho, hd, _⟩ := n
 obtain ⟨⟨o1, vs, g1, g2⟩, k⟩ := x.fields
 refine ⟨fun z => ?_, fun T e z => ?_⟩
 ·rw [z, ho] at g1
  cases g1
  rw [hd] at g2
  cases g2
 ·obtain ⟨o2, ts, g3, g4⟩ := k T e
  rw [z, ho] at g3
  cases g3
  rw [hd] at g4
  cases g4
theorem MI {X : Cx} {Ξ : Value → Hp → Prop} {M : Model} {α : Type} {what : String} {a T : Addr} {cls : Value} {env : Env} {s : Shared} {Q : α → Shared → Prop} (h : XS X Ξ (.ref a) s) (hT : Y2 s.heap a cls (some T)) :
  wpAny M X.A (PySem.passOn what (.ref a) env : Sem α) Q (XS X Ξ) s := by
 obtain ⟨oe, vs, h1, _, h2, e1, _⟩ := hT
 unfold PySem.passOn
 refine wpAny_bind (wpAny_field h1 h2 e1 ?_)
 rw [if_neg (by simp)]
 refine wpAny_bind (Cf h fun s' h' _ => ?_)
 exact wpAny_throw h'
set_option maxHeartbeats 2000000 in
theorem Fq {X : Cx} {Ξ : Value → Hp → Prop} {scope : Scope} {N : List Str} {use : Option (Value → Sem Unit)} {QQ : Value → Shared → Prop} {pins : List (Addr × Obj)} {σ : L2.St} (hX : XFr X) (C : Addr) (fp : List Addr) (s2 : Shared) (H2 : Hp) (acc : Value)
  (I2 : L2.Inv (wx X Ξ) pins σ H2 s2) (f2 : ∀ b ∈ fp, WL (wx X Ξ) pins H2 b) (hC : s2.heap.objs.size ≤ C) (e : Value) (s' : Shared) (h : XS (Zn (wx X Ξ) scope C N fp s2 H2) Ξ e s') :
  notedBy (model X.prog X.w) X.A (compEnvC scope (UK X.env scope.names []) C X.env) (fun x s' => compPost (model X.prog X.w) X.A (wx X Ξ).xe use QQ acc C (.error x) s') e s' := by
 have hY : XFr (Zn (wx X Ξ) scope C N fp s2 H2) := hX
 refine UA (X := Zn (wx X Ξ) scope C N fp s2 H2) hY h fun s1 h1 hT => ?_
 obtain ⟨a, T, cls, rfl, hT⟩ := hT
 obtain ⟨a', cls', tb, σ', H', e, IY, he, la, lt, hΞ⟩ := h1
 cases e
 obtain ⟨m, hm, _⟩ := IY.loc
 replace hm : s1.heap.Ns C m := hm
 have hCn : H' C = none := IY.free
 have I3 : L2.Inv (wx X Ξ) pins σ H' s1 := I2.CU (s' := s1) (ch := fp) IY.os IY.base IY.hok IY.bare fun b hb => ⟨(f2 b hb).2.2.2.1, (f2 b hb).2.1, (f2 b hb).2.2.2.2.1, (f2 b hb).2.2.2.2.2⟩
 have IX : L2.Inv X [] σ H' s1 := Inv.XW I3.Qd
 have I20 : L2.Inv X [] σ H2 s2 := Inv.XW I2.Qd
 have fin : ∃ m, s1.heap.Ns C m ∧ ∀ h', Heap.SameBut C s1.heap h' → ∀ cenv : Env, cenv.locals = C → wpAny (model X.prog X.w) X.A (PySem.passOn "comprehension.variables-let-go" (.ref a) cenv : Sem Value) (fun _ _ => False) (wx X Ξ).xe { s1 with heap := h' } := by
  refine ⟨m, hm, fun h' hsb cenv _ => ?_⟩
  have kp : ∀ (b : Addr) (o : Obj), b ≠ C → s1.heap.get? b = some o → h'.get? b = some o := fun b o hb e => hsb.extBut b o hb e
  obtain ⟨n1, n2⟩ := he.C2 hm
  obtain ⟨_, n3⟩ := hT.C2 hm
  have IZ := gone IX (I20.OY hC hCn) hsb
  exact MI (X := X) (cls := cls) (T := T) ⟨a, cls', tb, σ, H', rfl, IZ, he.keeps (fun o e => kp a o n1 e) (fun T o q e => kp T o (n2 T q) e), QU I20 la.un la.new, fun T q => QU I20 (lt T q).un (lt T q).new, hΞ⟩ (hT.keeps (fun o e => kp a o n1 e) fun T' o q e => kp T' o (n3 T' q) e)
 cases use <;> exact fin
section
variable {X : Cx} {Ξ : Value → Hp → Prop}
theorem Gg (ow : Bool) {elt tg iter : Expr} {ifs : List Expr} {scope : Scope} {pos : Pos} {src : VB} {N : List Str} {ix : List (Option Nat)} {g : DTG} {tc : DTT} {te : DTE} (hX : XFr X) (ok : JV (wx X Ξ) scope N ix) (hi : DI (wx X Ξ) tg iter src)
  (hg : ∀ C ex s H, DG (wx (Zn (wx X Ξ) scope C N ex s H) Ξ) tg g) (ht : ∀ C ex s H, DTs (wx (Zn (wx X Ξ) scope C N ex s H) Ξ) ifs tc) (he : ∀ C ex s H, DE (wx (Zn (wx X Ξ) scope C N ex s H) Ξ) elt te) (hc : X.calm = true)
  (hs : ∀ x, foldedSetIterable iter X.env x = pure x := by intro _; rfl) : DE (wx X Ξ) (.ListComp elt [⟨tg, iter, ifs, 0⟩] scope pos) (Et ow src ix g tc te) := by
 refine ⟨fun σ H Q => ∀ pins s, L2.Inv (wx X Ξ) pins σ H s → wpAny (model X.prog X.w) X.A (eval (.ListComp elt [⟨tg, iter, ifs, 0⟩] scope pos) X.env) (EP (wx X Ξ) pins σ Q) (wx X Ξ).xe s, fun pins s σ H Q I h => h pins s I, fun σ H Δ M Φ Q dr er h k pins s I => ?_⟩
 rw [eval_ListComp]
 refine Bv (X := wx X Ξ) (XI := fun C ex s H => XS (Zn (wx X Ξ) scope C N ex s H) Ξ) (ψ := Uh ow Φ) ok hi hg ht he hc hs dr er h I (fun s4 C D H' M' vs acc IX hDn dr' st rd fin hm f => ?_) fun C fp s2 H2 acc I2 f2 hC e s' h => Fq hX C fp s2 H2 acc I2 f2 hC e s' h
 obtain ⟨m, hm⟩ := hm
 exact ⟨m, hm, fun h' hsb => ⟨.ref D, _, gone IX f hsb, rfl, Mo dr' st rd hDn fin k⟩⟩
end
end DL
namespace DL
open PySem PySem.Spec PyProof.Rows L2 PySem.W
noncomputable abbrev DXK := Value → Mp → Prop
noncomputable abbrev Bx := List DV → Mp → DK → DXK → Prop
noncomputable def XD (K : PySem.W.Frag) (Ξ : DXK) : Value → Hp → Prop := fun cls H => ∃ M, ZE K M H ∧ Ξ cls M
noncomputable def J9 (K : PySem.W.Frag) (S : Bx) : Sp := fun vs H Q E => ∃ xs M Φ Ξ, ZE K M H ∧ J8 K M H vs xs ∧ S xs M Φ Ξ ∧ Rch K M H Φ Q ∧ ∀ cls H', XD K Ξ cls H' → E cls none H'
noncomputable def DF (S : Bx) (Ξ : DXK) (t : DTA) : DTE := fun Δ M Φ => t Δ M fun xs M1 => S xs M1 Φ Ξ
theorem Fg (S : Bx) (Ξ : DXK) (t : DTA) (Δ : DSt) (M : Mp) (Φ : DK) : DF S Ξ t Δ M Φ = (t Δ M fun xs M1 => S xs M1 Φ Ξ) := propext Iff.rfl
section
variable {X : Cx} {k : Nat} {f : Addr} {fd : FuncData} {ps : List Str} {S : Bx} {Ξ : DXK} {x : Str} {p pos : Pos} {e : Expr} {es : List Expr} {t : DTA}
theorem V7 (F : ZZ X.prog X.w X.K X.mg X.base (CX1 X.prog X.w) k f fd ps (J9 X.K S)) (hr : Vw k X.A) (hg : Gl (wx X (XD X.K Ξ)) x) (hm : X.mg x = some (.ref f)) (hk : PySem.W.keepIn X.K (.ref f) = true) (hb : Binds X.K fd ps [])
  (ha : DA (wx X (XD X.K Ξ)) (e :: es) t) (hdb : (x == ("__debug__" : Str)) = false := by decide) (he : starEach (e :: es) X.env = (false, eval e X.env) :: starEach es X.env := by rfl) (hpl : (backTo pos (starEach es X.env)).any (·.1) = false := by rfl) :
  DE (wx X (XD X.K Ξ)) (.Call (.Name x p) (e :: es) [] pos) (DF S Ξ t) := by
 obtain ⟨t1, p1, q1⟩ := ha
 refine ⟨_, Ua (X := wx X (XD X.K Ξ)) (E := fun cls _ H => XD X.K Ξ cls H) F hr hg hm hk hb .nil (Zbo fun _ _ z => z) p1 hdb he hpl, fun σ H Δ M Φ Q r e h k => ?_⟩
 refine q1 σ H Δ M _ _ r e h fun vs H1 xs M1 r1 st rv hx => ?_
 show J9 X.K S (vs ++ []) H1 Q _
 rw [List.append_nil]
 exact ⟨xs, M1, Φ, Ξ, r1, rv, hx, k.step st, fun _ _ z => z⟩
noncomputable def Mv (C : Addr) (Ξ : DXK) (t : DTA) : DTS := fun _ Δ M => t Δ M fun xs M1 => xs.length ≤ sizeLine ∧ Ξ (.ref C) M1
theorem E9 (C : Addr) (Ξ : DXK) (t : DTA) (D : Qf) (Δ : DSt) (M : Mp) : Mv C Ξ t D Δ M = (t Δ M fun xs M1 => xs.length ≤ sizeLine ∧ Ξ (.ref C) M1) := propext Iff.rfl
end
theorem PSs.mono {X : Cx} {E1 : Value → Shared → Prop} {st : List Stmt} {t : TS} (h : PSs (X.Jm E1) st t) (k : ∀ e s', E1 e s' → X.xe e s') : PSs X st t := fun pins s σ H D I hw =>
 wpAny_mono (h pins s σ H D (I.Jm _) hw) (fun _ _ q => q.Qd) k
section
variable {P : Program} {w : World} {K : PySem.W.Frag} {mg : Str → Option Value} {base : Heap}
theorem okX {x qual : Str} {st : Stmt} {f : Addr} {fd : FuncData} {N ps : List Str} {k : Nat} {S : Bx} (F : Fun K x qual st f fd) (Sc : Zt N ps (Ze st)) (len : ∀ xs M Φ Ξ, S xs M Φ Ξ → xs.length = ps.length)
  (hbody : ∀ (cdv : Value) (A : Around) (outer : List Env) (s : Shared) (H : Hp) (E : XK) (Ξ : DXK), Vw k (A.deeper (envOfC qual (Ze st) s.heap.objs.size f cdv)) →
   ∃ τ, DSs (wx (G6 (CX1 P w) P w K mg base N qual (Ze st) f cdv A outer s H E) (XD K Ξ)) (Zo st) τ ∧ ∀ xs M Φ, S xs M Φ Ξ → τ { nx := fun _ M' => Φ (.dat .none) M', rt := Φ } (JU N xs) M) : ZZ P w K mg base (CX1 P w) (k + 1) f fd ps (J9 K S) := by
 obtain ⟨oc, od, kV, doc, pm, an, cdv, ct, osl, rfl, lk, hcd⟩ := F.ex
 refine Rl lk hcd Sc (fun vs H Q E h => ?_) fun A outer s H vs Q E hr h => ?_
 ·obtain ⟨xs, M, Φ, Ξ, _, rv, hs, _⟩ := h
  rw [Paired.length rv]
  exact len xs M Φ Ξ hs
 ·obtain ⟨xs, M, Φ, Ξ, r, rv, hs, kk, kE⟩ := h
  obtain ⟨τ, ⟨t, p, q⟩, hτ⟩ := hbody cdv A outer s H E Ξ hr
  refine ⟨t, PSs.mono p fun e s' z => Zbb kE z, q (start N vs) H (JU N xs) M _ _ r (QD.start rv) (hτ xs M Φ hs) ⟨fun σ' H' Δ' M' r' st' e' hn => ?_, kk, fun _ _ _ _ _ _ _ h => h.elim, fun _ _ _ _ _ _ _ h => h.elim⟩⟩
  exact kk.dat r' st' Dt.non hn
end
noncomputable def Jl (a : Addr) (cls : Value) (h : Heap) : Prop := ∃ o vs, h.get? a = some o ∧ (o.cls = cls ∧ o.dict = none) ∧ o.data = .fields vs
section
variable {X : Cx} {pins : List (Addr × Obj)} {σ : L2.St} {H : Hp} {s : Shared} {a : Addr} {cls : Value} {tb : Option Addr}
theorem BS (I : L2.Inv X pins σ H s) (la : Loose X pins H a) (hφ : Jl a cls s.heap) : L2.Inv X pins σ (upd H a (.ext (Jl a cls))) s := by
 have e : ({ s with heap := s.heap, gens := s.gens, drawn := s.drawn, toks := s.toks } : Shared) = s := rfl
 rw [← e]
 have na : ∀ b u, H b = some u → b ≠ a := fun b u q z => by rw [z, la.un] at q; cases q
 refine I.call (ch := [a]) (g' := s.gens) (d' := s.drawn) (t' := s.toks) ⟨fun _ _ q _ _ _ => q, fun _ o q _ _ _ => ⟨o.slots, q⟩, fun b o q n hx => ?_, fun _ o q _ => ⟨o, q⟩, fun b xs q => ?_, fun b o u q => ?_, fun b ps q => ⟨#[], ?_⟩⟩ (fun b u q => ?_) I.bare fun b hb => ?_
 ·rw [Zq fun z => hx (by rw [z]; exact List.mem_singleton_self _)]; exact n
 ·rw [Zq (na b _ q)]; exact q
 ·rw [Zq (na b _ q)]; exact q
 ·rw [Zq (na b _ q), q]; simp
 ·by_cases hb : b = a
  ·subst hb
   rw [ZT] at q
   cases q
   obtain ⟨o, vs, g1, g2, g3⟩ := id hφ
   exact ⟨hφ, ⟨o, g1⟩, fun h1 h2 ⟨o', vs', k1, k2, k3⟩ k => ⟨o', vs', k o' k1, k2, k3⟩⟩
  ·rw [Zq hb] at q
   refine (I.hok b u q).Eu (fun c v _ z => z) (fun c z => ?_) fun c xs z => ?_
   ·rw [Zq (na c _ z)]; exact z
   ·rw [Zq (na c _ z)]; exact z
 ·rw [List.mem_singleton.mp hb]
  exact ⟨.inr la.new, la.nl, la.nc, la.np⟩
theorem Bn {i : Nat} {x : Str} {m : Str → Option Value} {v : Option Value} {h' : Heap} {t' : Nat} (I : L2.Inv X pins σ H s) (hN : X.N.Nodup) (hi : X.N[i]? = some x) (hl : X.env.kindOf x = some .local)
  (hm : s.heap.Ns X.env.locals m ∧ ∀ (i : Nat) (x : Str) (v : V), X.N[i]? = some x → σ[i]? = some (some v) → Vis X.env.scope x → ∃ u, RelV v u ∧ Look X.env s.heap m x u)
  (hn : h'.Ns X.env.locals (fun y => if y = x then v else m y)) (hs : Heap.SameBut X.env.locals s.heap h') : L2.Inv X pins (σ.set i none) H { s with heap := h', toks := t' } := by
 have keep : ∀ b, b ≠ X.env.locals → ∀ o, s.heap.get? b = some o → h'.get? b = some o := fun b hb o e => (hs.2 b hb).trans e
 have neL : ∀ b o, X.s₀.heap.get? b = some o → b ≠ X.env.locals := fun b o e => Nat.ne_of_lt (Nat.lt_of_lt_of_le (Heap.lt_size e) I.ok.above)
 have cellK : ∀ y c, X.env.cells.lookup y = some c → ∀ u, s.heap.IsCell c u → h'.IsCell c u := fun y c e u ⟨o, ho, hd⟩ => ⟨o, keep c (I.cne y c e) o ho, hd⟩
 refine ⟨I.ok, I.os, I.bare, ⟨fun b o e n hb hx => keep b (neL b o e) o (I.base.keep b o e n hb hx), fun b o e n hb hx => ?_, I.base.free, fun b o e hx => ?_, I.base.tups, I.base.frzs, I.base.tbls⟩, ⟨_, hn, fun j y u e1 e2 e3 => ?_⟩, fun y c e => ?_, I.free, I.freeC, fun p hp => ?_, fun b u e => ?_, by rw [List.length_set]; exact I.len⟩
 ·obtain ⟨sl, q⟩ := I.base.slot b o e n hb hx
  exact ⟨sl, keep b (neL b o e) _ q⟩
 ·obtain ⟨o', q⟩ := I.base.there b o e hx
  exact ⟨o', keep b (neL b o e) _ q⟩
 ·by_cases hj : j = i
  ·subst hj
   rw [List.getElem?_set_self' ] at e2
   cases q : σ[j]? with
   | none => rw [q] at e2; simp at e2
   | some z => rw [q] at e2; simp at e2
  ·rw [List.getElem?_set_ne (Ne.symm hj)] at e2
   obtain ⟨w, r, l⟩ := hm.2 j y u e1 e2 e3
   refine ⟨w, r, ?_⟩
   have ny : y ≠ x := fun z => hj (X6 hN (by rw [← z]; exact e1) hi)
   rcases l with ⟨l1, l2⟩ | ⟨k, c, e, z⟩
   ·exact .inl ⟨l1, by show (if y = x then v else m y) = _; rw [if_neg ny]; exact l2⟩
   ·exact .inr ⟨k, c, e, cellK y c e _ z⟩
 ·obtain ⟨u, z⟩ := I.cell y c e
  exact ⟨u, cellK y c e u z⟩
 ·obtain ⟨e, n, ne, nf, d⟩ := I.pin p hp
  exact ⟨keep p.1 ne _ e, n, ne, nf, d⟩
 ·have nL : ∀ c u, H c = some u → c ≠ X.env.locals := fun c u q z => by rw [z, I.free] at q; cases q
  refine (I.hok b u e).Eu (fun c v' hc q => keep c ?_ v' q) (fun _ q => q) fun _ _ q => q
  rcases hc with z | z
  ·rw [z]; exact nL b u e
  ·exact nL c _ z
noncomputable def marked (X : Cx) (e : Value) : Cx := { X with A := X.A.mark (some e), calm := false, xe := fun _ _ => False }
theorem Xt (I : L2.Inv X pins σ H s) (e : Value) : L2.Inv (marked X e) pins σ H s :=
 ⟨⟨I.ok.mod, I.ok.kind, I.ok.glob, I.ok.blt, I.ok.above, I.ok.inj, I.ok.has, I.ok.cab, fun z => (nomatch z), I.ok.frames, I.ok.stk, I.ok.exf, I.ok.bs, I.ok.bsz, I.ok.noex, I.ok.exfs, I.ok.Be, I.ok.frf⟩, I.os, I.bare, I.base, I.loc, I.cell, I.free, I.freeC, I.pin, I.hok, I.len⟩
theorem Wh {e : Value} (I : L2.Inv (marked X e) pins σ H s) (hd : X.calm = true → X.A.handled = none) : L2.Inv X pins σ H s :=
 ⟨⟨I.ok.mod, I.ok.kind, I.ok.glob, I.ok.blt, I.ok.above, I.ok.inj, I.ok.has, I.ok.cab, hd, I.ok.frames, I.ok.stk, I.ok.exf, I.ok.bs, I.ok.bsz, I.ok.noex, I.ok.exfs, I.ok.Be, I.ok.frf⟩, I.os, I.bare, I.base, I.loc, I.cell, I.free, I.freeC, I.pin, I.hok, I.len⟩
structure XG (K : PySem.W.Frag) (C L : Addr) : Prop where
 sub : subIn K (.ref C) (.ref L) = some true
 exc : subIn K (.ref L) (.type "BaseException") = some true
 ty : typeIn K (.ref L) = some (.type "type")
 cl : (clsIn K L).isSome = true
theorem W7 {M : Model} {A : Around} {E : Value → Shared → Prop} {C L : Addr} {K : PySem.W.Frag} {Q : Bool → Shared → Prop} (X : K.In s.heap) (c : XG K C L) (he : ∃ o, s.heap.get? a = some o ∧ o.cls = .ref C) (h : Q true s) : wpAny M A (excMatches (.ref a) (.ref L)) Q E s := by
 obtain ⟨hh, g, d, t, os⟩ := s
 obtain ⟨o, ho, hc⟩ := he
 have f := tc_notTuple
 have L1 := looks_typeIn (M := M) X c.ty
 have L2' := looks_subIn (M := M) X c.exc
 have L3 := looks_subIn (M := M) X c.sub
 have L4 : Looks M hh (isType (.ref L)) true := by
  have z := c.cl
  unfold clsIn at z
  split at z
  ·rename_i ho
   intro A' Q' E' s' k q
   unfold isType loadHead
   exact wpAny_bind (wpAny_loadPart (k _ _ (X _ _ ho)) (wpAny_pure q))
  ·cases z
 have L5 : Looks M hh (typeOf (.ref a)) (.ref C) := hc ▸ (Looks.ld ho).andThen .now
 dsimp only at L1 L2' L3 h X ho
 unfold excMatches
 repeat (first | (with_reducible refine wpAny_loadPart_at ho ?_; rw [hc]) | with_reducible refine L1.at ?_ | with_reducible refine L4.at ?_ | with_reducible refine L2'.at ?_ | with_reducible refine L3.at ?_ | wp_step)
 exact h
end
end DL
namespace DL
open PySem PySem.Spec PyProof.Rows L2 PySem.W
section
variable {X : Cx} {pins : List (Addr × Obj)} {σ : L2.St} {H : Hp} {s : Shared} {a C L : Addr} {tb : Option Addr}
theorem KQ (σ : L2.St) {i j : Nat} (h : j ≠ i) (x y : Option V) : ((σ.set i x).set j y).set i none = (σ.set j y).set i none := by
 rw [List.set_comm x y (Ne.symm h), List.set_set]
theorem Y2.is {h : Heap} {cls : Value} (x : Y2 h a cls tb) : Jl a cls h := by
 obtain ⟨oe, vs, h1, hc, h2, _⟩ := x
 exact ⟨oe, vs, h1, hc, h2⟩
set_option maxHeartbeats 2000000 in
theorem CS {E : Value → Shared → Prop} {Q : Flow → Shared → Prop} {ce n c : Str} {ic ie : Nat} {cp p1 p2 ap hp : Pos} (I : L2.Inv X pins σ H s) (he : Y2 s.heap a (.ref C) tb) (la : Loose X pins H a) (lt : ∀ T, tb = some T → Loose X pins H T)
  (hg : Gl X ce) (hm : X.mg ce = some (.ref L)) (cc : XG X.K C L) (hN : X.N.Nodup) (hie : X.N[ie]? = some n) (hle : X.env.kindOf n = some .local) (hle' : X.env.scope.names.lookup n = some .local) (hic : X.N[ic]? = some c) (hlc : Loc X.env.scope c) (hfc : X.fn c = true ∨ X.env.scope.names.lookup c = some .local) (hne : ic ≠ ie)
  (hsw : swapsWith (.Name n p2) (some (.Name c p1)) ap.line X.env = pure false) (hd1 : (ce == ("__debug__" : Str)) = false) (hd2 : (n == ("__debug__" : Str)) = false) (hd3 : (n == ("__classdict__" : Str)) = false)
  (h : ∀ s', L2.Inv X pins ((σ.set ic (some (.ref a))).set ie none) (upd H a (.ext (Jl a (.ref C)))) s' → Q .next s') :
  wpAny (model X.prog X.w) X.A (handleBy (.ref a) X.env [.ExceptHandler (some (.Name ce cp)) (some n) [.Assign [.Name c p1] (.Name n p2) ap] hp]) Q E s := by
 refine wpAny_handleBy_cons (codeAny_handlers_test ?_) (by intro q; cases q)
 refine Yf (X := marked X (.ref a)) (Xt I (.ref a)) hg hm ?_ hd1
 obtain ⟨oe, vs, h1, hc, h2, _⟩ := id he
 refine W7 (K := X.K) I.kIn cc ⟨oe, h1, hc.1⟩ ?_
 show codeAny _ _ _ _ s
 refine codeAny_handlers_suite_as ?_
 refine Eh he fun h' ch x _ => ?_
 have I2 : L2.Inv X pins σ H { s with heap := h' } := Uw I he la lt ⟨fun b o e _ => ch.keep b o e (fun z => nomatch z), ch.slot, ch.there⟩
 refine KR (X := X) I2 hN hie (.inl hle') (v := .ref a) (u := .ref a) rfl (fun s3 I3 hs3 => ?_) (.inr hle')
 have hφ : Jl a (.ref C) s3.heap := by
  obtain ⟨b, sb, hb⟩ := hs3
  obtain ⟨o, ws, g1, g2, g3⟩ := x.is
  refine ⟨o, ws, (sb.2 a ?_).trans g1, g2, g3⟩
  rcases hb with z | z
  ·rw [z]; exact la.nl
  ·exact fun e => la.nc _ _ z e.symm
 have I4 := BS I3 la hφ
 have ps : PSs (marked X (.ref a)) [.Assign [.Name c p1] (.Name n p2) ap] (Za4 (Zd3 ie) (Nz ic)) := C3 (LZ (X := marked X (.ref a)) hN hic hlc (C5 (X := marked X (.ref a)) hie (.inl hle') hd2 hd3) hsw hfc)
 refine wpAny_mono (ps pins s3 _ _ { nx := fun σ' H' => σ' = (σ.set ie (some (.ref a))).set ic (some (.ref a)) ∧ H' = upd H a (.ext (Jl a (.ref C))), rt := fun _ _ => False } (Xt I4 (.ref a)) ⟨.ref a, ?_, rfl, rfl⟩) (fun f s4 q => ?_) fun _ _ z => False.elim z
 ·rw [List.getElem?_set_self (by rw [I.len]; exact (List.getElem?_eq_some_iff.mp hie).1)]
 ·cases f with
  | next =>
   obtain ⟨σ4, H4, I5, rfl, rfl⟩ := q
   have I6 := Wh I5 I.ok.hd
   obtain ⟨m, hm1, hm2⟩ := I6.loc
   refine wpAny_nameGoes_keeps hle hm1 (by rw [I.ok.kind]; rfl) fun h'' v hn hs => h _ ?_
   have I7 := Bn (t' := s4.toks + 1) I6 hN hie hle ⟨hm1, hm2⟩ hn hs
   rw [KQ σ hne] at I7
   exact I7
  | brk => obtain ⟨_, _, _, z⟩ := q; exact z.elim
  | cont => obtain ⟨_, _, _, z⟩ := q; exact z.elim
  | ret u => obtain ⟨_, _, _, _, _, z⟩ := q; exact z.elim
end
theorem QD.unset {K : PySem.W.Frag} {M : Mp} {H : Hp} {σ : L2.St} {Δ : DSt} (e : QD K M H σ Δ) (i : Nat) : QD K M H (σ.set i none) (Δ.set i none) := ⟨by rw [List.length_set, List.length_set]; exact e.len, fun j y z => by
 by_cases q : i = j
 ·subst q
  by_cases hl : i < Δ.length
  ·rw [List.getElem?_set_self hl] at z
   cases z
  ·rw [List.getElem?_eq_none (by rw [List.length_set]; omega)] at z
   cases z
 ·rw [List.getElem?_set_ne q] at z
  rw [List.getElem?_set_ne q]
  exact e.at' j y z⟩
section
variable {K : PySem.W.Frag} {M M' : Mp} {H H' : Hp} {p : Addr} {ds : List PyData}
theorem Og (r : ZE K M H) (hp : M p = some (.lst ds)) : ZE K (ZF M p (.gst (fun b => M b = none) H)) H ∧ Step M H (ZF M p (.gst (fun b => M b = none) H)) H := by
 have ne : ∀ b, M b = none → b ≠ p := fun b hb e => by rw [e, hp] at hb; cases hb
 have st : Step M H (ZF M p (.gst (fun b => M b = none) H)) H := ⟨fun _ _ _ e => e, fun b _ hb _ => by rw [ZV (ne b hb)]; exact hb⟩
 refine ⟨⟨fun a o e => ?_⟩, st⟩
 by_cases ha : a = p
 ·subst ha
  rw [Qe] at e
  cases e
  obtain ⟨vs, e1, _⟩ := r.ls a ds hp
  exact ⟨⟨vs, e1, e1⟩, fun b o n q => ⟨q, by rw [ZV (ne b n)]; exact n⟩⟩
 ·rw [ZV ha] at e
  exact (r.ok a o e).step st fun _ h => h
theorem DP (r : ZE K M H) (hp : M p = some (.lst ds)) (r' : ZE K M' H') (hp' : M' p = some (.gst (fun b => M b = none) H)) : ZE K (ZF M' p (.lst ds)) H' ∧ Step M H (ZF M' p (.lst ds)) H' := by
 obtain ⟨⟨vs', e1, e2⟩, kp⟩ := (show OOk K M' H' p _ from r'.ok p _ hp')
 obtain ⟨vs, g1, g2⟩ := r.ls p ds hp
 rw [g1] at e2
 cases e2
 have ne : ∀ b, M b = none → b ≠ p := fun b hb e => by rw [e, hp] at hb; cases hb
 have ne' : ∀ b, M' b = none → b ≠ p := fun b hb e => by rw [e, hp'] at hb; cases hb
 have st : Step M H (ZF M' p (.lst ds)) H' := ⟨fun b o n q => (kp b o n q).1, fun b o n q => by rw [ZV (ne b n)]; exact (kp b o n q).2⟩
 have st' : Step M' H' (ZF M' p (.lst ds)) H' := ⟨fun _ _ _ e => e, fun b _ hb _ => by rw [ZV (ne' b hb)]; exact hb⟩
 refine ⟨⟨fun a o e => ?_⟩, st⟩
 by_cases ha : a = p
 ·subst ha
  rw [Qe] at e
  cases e
  exact ⟨_, e1, g2.step st⟩
 ·rw [ZV ha] at e
  exact (r'.ok a o e).step st' fun _ h => h
end
noncomputable def SF (S : Bx) (ta : DTA) (ok : Value → Prop) (ic ie : Nat) : DTS := fun D Δ M => ta Δ M fun xs M1 => ∃ p ds, M1 p = some (.lst ds) ∧ ∀ G, S xs (ZF M1 p G) (fun _ M2 => M2 p = some G ∧ D.nx Δ (ZF M2 p (.lst ds)))
 fun cls M2 => ok cls ∧ M2 p = some G ∧ ∀ a, M2 a = none → a ≠ p → D.nx ((Δ.set ic (some (.own a))).set ie none) (ZF (ZF M2 p (.lst ds)) a (.ext (Jl a cls)))
theorem NC (S : Bx) (ta : DTA) (ok : Value → Prop) (ic ie : Nat) (D : Qf) (Δ : DSt) (M : Mp) : SF S ta ok ic ie D Δ M = (ta Δ M fun xs M1 => ∃ p ds, M1 p = some (.lst ds) ∧ ∀ G, S xs (ZF M1 p G) (fun _ M2 => M2 p = some G ∧ D.nx Δ (ZF M2 p (.lst ds)))
 fun cls M2 => ok cls ∧ M2 p = some G ∧ ∀ a, M2 a = none → a ≠ p → D.nx ((Δ.set ic (some (.own a))).set ie none) (ZF (ZF M2 p (.lst ds)) a (.ext (Jl a cls)))) := propext Iff.rfl
section
variable {X : Cx} {k : Nat} {f : Addr} {fd : FuncData} {ps : List Str} {S : Bx} {x : Str} {p pos : Pos} {e : Expr} {es : List Expr} {t : DTA}
set_option maxHeartbeats 4000000 in
theorem NK (ic ie : Nat) {ok : Value → Prop} {L : Addr} {ce n c : Str} {epos cp p1 p2 ap hp tpos : Pos} (F : ZZ X.prog X.w X.K X.mg X.base (CX1 X.prog X.w) k f fd ps (J9 X.K S)) (hr : Vw k X.A) (hg : Gl X x) (hm : X.mg x = some (.ref f)) (hk : PySem.W.keepIn X.K (.ref f) = true) (hb : Binds X.K fd ps [])
  (ha : ∀ E, DA (X.Jm E) (e :: es) t) (hX : XFr X) (hgc : Gl X ce) (hmc : X.mg ce = some (.ref L)) (cc : ∀ cls, ok cls → ∃ C, cls = .ref C ∧ XG X.K C L) (hN : X.N.Nodup)
  (hie : X.N[ie]? = some n := by rfl) (hle : X.env.kindOf n = some .local := by rfl) (hle' : X.env.scope.names.lookup n = some .local := by rfl) (hic : X.N[ic]? = some c := by rfl) (hlc : Loc X.env.scope c := by first | exact Or.inl rfl | exact Or.inr rfl) (hfc : X.fn c = true ∨ X.env.scope.names.lookup c = some .local := by first | exact .inl rfl | exact .inr rfl) (hne : ic ≠ ie := by decide)
  (hsw : swapsWith (.Name n p2) (some (.Name c p1)) ap.line X.env = pure false := by rfl) (hsx : swapsWith (.Call (.Name x p) (e :: es) [] pos) none epos.line X.env = pure false := by rfl) (hd1 : (ce == ("__debug__" : Str)) = false := by decide) (hd2 : (n == ("__debug__" : Str)) = false := by decide) (hd3 : (n == ("__classdict__" : Str)) = false := by decide)
  (hdb : (x == ("__debug__" : Str)) = false := by decide) (he : starEach (e :: es) X.env = (false, eval e X.env) :: starEach es X.env := by rfl) (hpl : (backTo pos (starEach es X.env)).any (·.1) = false := by rfl) :
  DS X (.Try [.Expr (.Call (.Name x p) (e :: es) [] pos) epos] [.ExceptHandler (some (.Name ce cp)) (some n) [.Assign [.Name c p1] (.Name n p2) ap] hp] [] [] tpos) (SF S t ok ic ie) := by
 refine ⟨fun E σ H => ∀ pins s, L2.Inv X pins σ H s → wpAny (model X.prog X.w) X.A (exec (.Try [.Expr (.Call (.Name x p) (e :: es) [] pos) epos] [.ExceptHandler (some (.Name ce cp)) (some n) [.Assign [.Name c p1] (.Name n p2) ap] hp] [] [] tpos) X.env) (SP X pins E) X.xe s, fun pins s σ H E I h => h pins s I, fun σ H Δ M D E dr er h kk pins s I => ?_⟩
 generalize hXT : (XSg X pins fun cls σ' H' => σ' = σ ∧ ∃ M1 H1 q ds, ZE X.K M1 H1 ∧ Step M H M1 H1 ∧ M1 q = some (.lst ds) ∧ ∃ M', ZE X.K M' H' ∧ ok cls ∧ M' q = some (.gst (fun b => M1 b = none) H1) ∧ ∀ a, M' a = none → a ≠ q → D.nx ((Δ.set ic (some (.own a))).set ie none) (ZF (ZF M' q (.lst ds)) a (.ext (Jl a cls)))) = XT
 refine wpAny_Try_except ?_
 have body : wpAny (model X.prog X.w) X.A (eval (.Call (.Name x p) (e :: es) [] pos) X.env) (fun _ s1 => SP X pins E .next s1) XT s := by
  obtain ⟨t1, pa, qa⟩ := ha XT
  have I' := I.Jm XT
  refine wpAny_Call_Name_kw (Yf I hg hm ?_ hdb)
  refine PySem.W.callWith_K (h₀ := X.base) I.ok.mod.kin hk (thn (pa pos pins s σ H (fun vs H1 => ∃ xs M1, ZE X.K M1 H1 ∧ Step M H M1 H1 ∧ J8 X.K M1 H1 vs xs ∧ ∃ q ds, M1 q = some (.lst ds) ∧ ∀ G, S xs (ZF M1 q G) (fun _ M2 => M2 q = some G ∧ D.nx Δ (ZF M2 q (.lst ds)))
    fun cls M2 => ok cls ∧ M2 q = some G ∧ ∀ a, M2 a = none → a ≠ q → D.nx ((Δ.set ic (some (.own a))).set ie none) (ZF (ZF M2 q (.lst ds)) a (.ext (Jl a cls)))) I' (qa σ H Δ M _ _ dr er h fun vs H1 xs M1 r1 st rv hx => ⟨xs, M1, r1, st, rv, hx⟩)) fun us s1 ⟨vs, H1, I1, r, xs, M1, r1, st, rv, q, ds, hq, hS⟩ => ⟨I1.kIn, ?_⟩) he hpl
  obtain ⟨rG, sG⟩ := Og r1 hq
  have sp : J9 X.K S vs H1 (fun _ H2 => ∃ M2, ZE X.K M2 H2 ∧ Step M H M2 H2 ∧ D.nx Δ M2) (fun cls _ H2 => XD X.K (fun cls M2 => ok cls ∧ M2 q = some (.gst (fun b => M1 b = none) H1) ∧ ∀ a, M2 a = none → a ≠ q → D.nx ((Δ.set ic (some (.own a))).set ie none) (ZF (ZF M2 q (.lst ds)) a (.ext (Jl a cls)))) cls H2) :=
   ⟨xs, _, _, _, rG, rv.step sG, hS _, fun v H2 y M2 r2 st2 rv2 hx => by
    obtain ⟨g1, g2⟩ := DP r1 hq r2 hx.1
    exact ⟨_, g1, st.trans g2, hx.2⟩, fun _ _ z => z⟩
  have hl : us.length = ps.length := by rw [← r.length]; exact F.len _ _ _ _ sp
  refine wpAny_call (codeAny_mono (F.run X.A X.stack s1 H1 ⟨us, []⟩ us vs _ _ hr I1.Qd.ZcV (by simpa using hb s1 us I1.kIn (by simpa using hl)) r sp) fun rr s' hq' => ?_)
  cases rr with
  | error e' =>
   obtain ⟨a, cls, tb, H', rfl, os, bare, un, hok, hx, ⟨g1, g2⟩, g3, M', dr', k1, k2, k3⟩ := hq'
   have I2 : L2.Inv X pins σ H' s' := I1.Qd.CU (ch := []) os un hok bare fun b z => nomatch z
   rw [← hXT]
   exact ⟨a, cls, tb, σ, H', rfl, I2, hx, QU I1.Qd g1 g2, fun T z => QU I1.Qd (g3 T z).1 (g3 T z).2, rfl, M1, H1, q, ds, r1, st, hq, M', dr', k1, k2, k3⟩
  | ok fl =>
   cases fl with
   | ret u =>
    obtain ⟨v, H', I2, _, M2, r2, st2, hn⟩ := I1.Qd.after hq'
    exact ⟨σ, H', I2, kk.nx _ _ _ _ r2 st2 (er.step st2) hn⟩
   | next => exact False.elim hq'
   | brk => exact False.elim hq'
   | cont => exact False.elim hq'
 have ex : wpAny (model X.prog X.w) X.A (execs [.Expr (.Call (.Name x p) (e :: es) [] pos) epos] X.env) (fun fl s1 => fl = .next ∧ SP X pins E .next s1) XT s := wpAny_execs_cons (wpAny_Expr_any (wpAny_mono body (fun _ s1 q => wpAny_execs_nil ⟨rfl, q⟩) fun _ _ z => z) I.quiet hsx)
 refine wpAny_mono ex (fun fl s1 q => ?_) fun e' s1 hx => ?_
 ·obtain ⟨rfl, q⟩ := q
  exact wpAny_execs_nil q
 ·subst hXT
  refine UA hX hx fun s2 h2 _ => Cf h2 fun s3 h3 _ => ?_
  obtain ⟨a, cls, tb, σ', H', rfl, I3, hex, la, lt, rfl, M1, H1, q, ds, r1, st, hq, M', dr', k1, k2, k3⟩ := h3
  obtain ⟨C, rfl, hcat⟩ := cc cls k1
  refine CS I3 hex la lt hgc hmc hcat hN hie hle hle' hic hlc hfc hne hsw hd1 hd2 hd3 fun s4 I4 => ?_
  obtain ⟨g1, g2⟩ := DP r1 hq dr' k2
  have aq : a ≠ q := fun z => by
   obtain ⟨⟨vs', e1, _⟩, _⟩ := (show OOk X.K M' H' q _ from dr'.ok q _ k2)
   rw [z] at la
   rw [la.un] at e1
   cases e1
  have st3 : Step (ZF M' q (.lst ds)) H' (ZF (ZF M' q (.lst ds)) a (.ext (Jl a (.ref C)))) (upd H' a (.ext (Jl a (.ref C)))) := Step.Js la.un
  have stA := (st.trans g2).trans st3
  refine ⟨_, _, I4, kk.nx _ _ _ _ (g1.LV st3 ZT) stA (((er.step stA).set (v := .ref a) (x := .own a) rfl).unset ie) (k3 a (dr'.tracked la.un) aq)⟩
end
end DL
namespace DL
open PySem PySem.Spec PyProof.Rows L2 PySem.W PySem.Calls
structure XC (K : PySem.W.Frag) (C : Addr) : Prop where
 ga : findIn K (.ref C) "__getattribute__" = some (some (.builtin "BaseException.__getattribute__"))
 gb : findIn K (.ref C) "__getattr__" = some none
 cl : findIn K (.ref C) "__class__" = some (some (.builtin "object.__class__"))
 gs : specialIn K (.builtin "object.__class__") "__get__" = some (some (.builtin "getset_descriptor.__get__"))
 tk : takesIn K (.builtin "object.__class__") = some true
 ob : mroIn K C (.type "object") = some true
 be : mroIn K C (.type "BaseException") = some true
 cd : (clsIn K C).isSome = true
section
variable {prog : Program} {w : World} {A : Around} {E : Value → Shared → Prop} {s : Shared} {K : PySem.W.Frag} {x C : Addr} {ox : Obj}
theorem Fu (k : XC K C) : findObj K C none "__class__" = some (.bind (.builtin "getset_descriptor.__get__") (.builtin "object.__class__")) := by
 obtain ⟨cd, hc⟩ := Option.isSome_iff_exists.mp k.cd
 unfold findObj
 rw [hc, Option.bind_some, k.cl, Option.bind_some]
 simp [k.gs, k.tk]
theorem C4 {tk : Tok} {Q : Fin → Shared → Prop} (k : XC K C) (X : K.In s.heap) (I : InstAt s.heap x ox C none) (hq : Q (.done (.ret (.ref C))) s) :
  wpAny (model prog w) A (Builtin.«object.__getattribute__» ⟨[.ref x, .str "__class__" tk], []⟩) Q E s := by
 obtain ⟨hh, g, d, t, os⟩ := s
 have L0 := I.type (M := model prog w)
 have L1 := looks_find (M := model prog w) X I (Fu k)
 unfold Builtin.«object.__getattribute__»
 refine wpAny_bind (wpAny_pure (wpAny_bind (wpAny_pure (wpAny_bind (L0.at (wpAny_bind (L1.at ?_)))))))
 show wpAny _ _ (holding [_] (call (.builtin "getset_descriptor.__get__") [.builtin "object.__class__", .ref x, .ref C]) >>= ret) _ _ _
 refine wpAny_bind (wpAny_holding (wpAny_call (class_get (ox := ox) (od := none) X I k.ob ?_)))
 exact wpAny_pure hq
theorem DX {nameV : Value} {Q : Unit → Shared → Prop} (k : XC K C) (X : K.In s.heap) (I : InstAt s.heap x ox C none) (hq : Q () s) : wpAny (model prog w) A (checkBuiltinCall "BaseException.__getattribute__" ⟨[.ref x, nameV], []⟩) Q E s := by
 obtain ⟨hh, g, d, t, os⟩ := s
 have hk : builtinKind "BaseException.__getattribute__" = some .slot := by decide +kernel
 have hsplit : splitId "BaseException.__getattribute__" = some ("BaseException", "__getattribute__") := by decide +kernel
 have L0 := I.type (M := model prog w)
 have LE := looks_mroIn (M := model prog w) X k.be
 have ha := PySem.F.args_bexc_ga (.ref x) nameV
 simp only [checkBuiltinCall, hk, hsplit]
 refine wpAny_bind ?_
 unfold isInstance
 repeat (first | with_reducible refine L0.at ?_ | with_reducible refine LE.at ?_ | wp_step)
 exact hq
theorem H9 {Q : Option Value → Shared → Prop} (k : XC K C) (X : K.In s.heap) (I : InstAt s.heap x ox C none) (h : Q (some (.ref C)) { s with toks := s.toks + 1 }) : wpAny (model prog w) A (getAttr? (.ref x) "__class__") Q E s := by
 obtain ⟨hh, g, d, t, os⟩ := s
 have L0 := I.type (M := model prog w)
 have LA := looks_findIn (M := model prog w) X k.ga
 have LB := looks_findIn (M := model prog w) X k.gb
 have f3 := PySem.F.attrBase_ValueError.ga.bind (.ref x)
 have hx2 : (Value.builtin "BaseException.__getattribute__" == Value.builtin "object.__getattribute__") = false := by decide +kernel
 have hx1 : (onTheHeap (Value.ref C) && Value.builtin "BaseException.__getattribute__" == Value.builtin "object.__getattribute__") = false := by rw [hx2]; rfl
 unfold getAttr? getAttrBy? getAttrBy
 refine wpAny_bind (wpAny_mkText (wpAny_bind (wpAny_attempt (wpAny_holding (wpAny_bind (L0.at (wpAny_bind (LA.at ?_))))))))
 dsimp only
 rw [hx1, if_neg Bool.false_ne_true]
 unfold getAttrByItsOwn hookBefore
 rw [if_pos (show onTheHeap (Value.ref C) = true from rfl)]
 refine wpAny_bind (LB.at (wpAny_bind (wpAny_attempt (wpAny_holding ?_))))
 unfold callGetattribute
 rw [if_neg (by simp)]
 unfold boundAndCalled
 rw [f3]
 refine wpAny_bind (wpAny_pure ?_)
 refine wpAny_call (codeAny_call_builtin PySem.F.attrBase_ValueError.ga.plain PySem.F.entry_bexc_ga (DX k X I (C4 k X I ?_)))
 show wpAny _ _ (handedOut (.ref C)) _ _ _
 exact wpAny_pure (wpAny_pure h)
theorem Gd (k : XC K C) : KitX K (.ref x) (.ref C) (fun h => InstAt h x ox C none) where
 ty := fun _ _ _ I => I.type
 it := fun _ _ X _ => by
  obtain ⟨cdD, hcD⟩ := Option.isSome_iff_exists.mp k.cd
  unfold clsIn at hcD
  split at hcD
  ·rename_i c' d' cd' sl' ho
   intro A' Q' E' s' k q
   unfold isType loadHead
   exact wpAny_bind (wpAny_loadPart (k _ _ (X _ _ ho)) (wpAny_pure q))
  ·cases hcD
 ne := fun h tp dd its n sl X htp => by
  obtain ⟨cdD, hcD⟩ := Option.isSome_iff_exists.mp k.cd
  refine Bool.eq_false_iff.mpr fun q => ?_
  have e : C = tp := Value.ref.inj (beq_iff_eq.mp q)
  subst e
  unfold clsIn at hcD
  split at hcD
  ·rename_i c' d' cd' sl' ho
   have z := (X _ _ ho).symm.trans htp
   cases z
  ·cases hcD
 ca := fun X I kk => H9 k X I kk
end
end DL
namespace DL
open PySem PySem.Spec PyProof.Rows L2 PySem.W
theorem Ro {K : PySem.W.Frag} {h : Heap} {mg : Str → Option Value} {x : Str} {C : Addr} {bm : List Value} {nid : String} (X : K.In h) (hm : mg x = some (.ref C)) (q : excIn K C bm nid = true) : OwnCls x C bm nid mg h := by
 constructor
 ·exact hm
 revert q
 simp only [excIn]
 split
 case h_2 => exact fun z => nomatch z
 case h_1 d1 cd s1 hl =>
  rcases cd with ⟨c1, c2, c3, c4, c5, c6, c7, c8, c9, c10, c11⟩
  dsimp only
  split
  case h_2 => exact fun z => nomatch z
  case h_1 _ C1 b1 j0 j1 j2 j3 n1 j5 e2 =>
   intro z
   simp only [Bool.and_eq_true, beq_iff_eq, Bool.not_eq_true'] at z
   rcases z with ⟨⟨⟨⟨⟨z1, z2⟩, z3⟩, z4⟩, z5⟩, z6⟩
   have e3 : s1 = #[j0, j1, j2, j3, some (.builtin n1), j5] := by
    rcases s1 with ⟨l⟩
    exact congrArg Array.mk e2
   rw [e3, z1, z2, z3] at hl
   exact ⟨_, _, _, _, _, _, _, _, _, _, _, _, _, _, _, _, _, X C _ hl, .of_isNs (isNs_of_in X z5), nsMap_none_of_in X z5 z6, tail_of_in X z4⟩
section
variable {X : Cx} {k : Nat} {f : Addr} {fd : FuncData} {ps : List Str} {S : Bx} {Ξ : DXK} {x : Str} {p pos : Pos} {e : Expr} {es : List Expr} {t : DTA}
theorem Wu {C : Addr} {B newId initId : String} {bm : List Value} {np cpos : Pos} {e₀ : Expr} (hm : X.mg x = some (.ref C)) (hx : excIn X.K C bm newId = true) (FB : ExcBaseFacts B newId initId bm) (hc : X.calm = true) (hg : Gl (wx X (XD X.K Ξ)) x) (ha : DA (wx X (XD X.K Ξ)) [e₀] t) (he : starEach [e₀] X.env = [(false, eval e₀ X.env)] := by rfl) (hd : (x == ("__debug__" : Str)) = false := by decide) :
  DS (wx X (XD X.K Ξ)) (.Raise (some (.Call (.Name x np) [e₀] [] cpos)) none pos) (Mv C Ξ t) := by
 obtain ⟨t1, p1, q1⟩ := ha
 refine ⟨_, fun pins s σ H D I h => E3 (X := X) (Ξ := XD X.K Ξ) (Ro I.ok.mod.kin hm hx) FB hc hg p1 he hd pins s σ H D I h, fun σ H Δ M D E r e h k => ?_⟩
 refine q1 σ H Δ M _ _ r e h fun vs H1 xs M1 r1 st rv hx => ?_
 exact ⟨by rw [Paired.length rv]; exact hx.1, M1, r1, hx.2⟩
theorem FW (F : ZZ X.prog X.w X.K X.mg X.base (CX1 X.prog X.w) k f fd ps (J9 X.K S)) (hr : Vw k X.A) (hg : Gl X x) (hm : X.mg x = some (.ref f)) (hk : PySem.W.keepIn X.K (.ref f) = true) (hb : Binds X.K fd ps [])
  (ha : DA X (e :: es) t) (hdb : (x == ("__debug__" : Str)) = false := by decide) (he : starEach (e :: es) X.env = (false, eval e X.env) :: starEach es X.env := by rfl) (hpl : (backTo pos (starEach es X.env)).any (·.1) = false := by rfl) :
  DE X (.Call (.Name x p) (e :: es) [] pos) (DF S (fun _ _ => False) t) := by
 obtain ⟨t1, p1, q1⟩ := ha
 have hx : Passes (CX1 X.prog X.w) X (fun _ _ _ => False) := fun _ _ _ _ _ _ _ ⟨_, _, _, _, _, _, _, _, _, _, _, _, z⟩ => z.elim
 refine ⟨_, Ua F hr hg hm hk hb .nil hx p1 hdb he hpl, fun σ H Δ M Φ Q r e h k => ?_⟩
 refine q1 σ H Δ M _ _ r e h fun vs H1 xs M1 r1 st rv hx => ?_
 show J9 X.K S (vs ++ []) H1 Q _
 rw [List.append_nil]
 exact ⟨xs, M1, Φ, _, r1, rv, hx, k.step st, fun _ _ ⟨_, _, z⟩ => z⟩
noncomputable def Zdd (C : Addr) : DTE := fun _ M Φ => Φ (.own C) M
theorem Rr (C : Addr) (Δ : DSt) (M : Mp) (Φ : DK) : Zdd C Δ M Φ = Φ (.own C) M := propext Iff.rfl
theorem Sl {C : Addr} (hg : Gl X x) (hm : X.mg x = some (.ref C)) (hd : (x == ("__debug__" : Str)) = false := by decide) : DE X (.Name x pos) (Zdd C) :=
 ⟨_, UZ (v := .ref C) hg hm rfl hd, fun _ H _ M _ _ r _ h k => k (.ref C) H (.own C) M r Step.refl rfl h⟩
end
noncomputable def Cau (K : PySem.W.Frag) (H : Hp) (v : V) (t : Value) : Prop := (v = .non ∧ t = .type "NoneType") ∨ ∃ a C, v = .ref a ∧ t = .ref C ∧ H a = some (.ext (Jl a (.ref C))) ∧ XC K C
noncomputable def Zbm : DV → Option Value
 | .own C => some (.ref C)
 | .ty T => some (.type T)
 | _ => none
noncomputable def Hx (K : PySem.W.Frag) (x : DV) (M : Mp) (φ : Value → Prop) : Prop := match x with
 | .dat .none => φ (.type "NoneType")
 | .own a => ∃ C, M a = some (.ext (Jl a (.ref C))) ∧ XC K C ∧ φ (.ref C)
 | _ => False
theorem Lf (K : PySem.W.Frag) (M : Mp) (φ : Value → Prop) : Hx K (.dat .none) M φ = φ (.type "NoneType") := propext Iff.rfl
theorem E4 (K : PySem.W.Frag) (a : Addr) (M : Mp) (φ : Value → Prop) : Hx K (.own a) M φ = ∃ C, M a = some (.ext (Jl a (.ref C))) ∧ XC K C ∧ φ (.ref C) := propext Iff.rfl
section
variable {X : Cx} {K : PySem.W.Frag}
theorem Dd {M : Mp} {H : Hp} {x : DV} {v : V} {φ : Value → Prop} (h : Hx K x M φ) (r : ZE K M H) (rv : Qh K M H v x) : ∃ t, Cau K H v t ∧ φ t := by
 unfold Hx at h
 split at h
 ·cases rv
  exact ⟨_, .inl ⟨rfl, rfl⟩, h⟩
 ·obtain ⟨C, h1, h2, h3⟩ := h
  exact ⟨_, .inr ⟨_, C, rv, rfl, r.ok _ _ h1, h2⟩, h3⟩
 ·exact h.elim
theorem Cau.step {H H' : Hp} {v : V} {t : Value} (c : Cau K H v t) (h : ∀ a o, H a = some o → H' a = some o) : Cau K H' v t := by
 rcases c with z | ⟨a, C, z1, z2, z3, z4⟩
 ·exact .inl z
 ·exact .inr ⟨a, C, z1, z2, h _ _ z3, z4⟩
theorem Gq {h : Heap} {a C : Addr} (e : Jl a (.ref C) h) : ∃ ox, PySem.W.InstAt h a ox C none := by
 obtain ⟨o, vs, h1, ⟨h2, h3⟩, h4⟩ := e
 refine ⟨o, h1, h2, ?_, ?_⟩
 ·unfold notCls
  rw [h4]
 ·rw [h3]
  exact True.intro
theorem B7 : QO X (.builtin "isinstance") (fun xs H Q => ∃ v c t cv b, xs = [v, c] ∧ Cau X.K H v t ∧ ((∃ C, c = .ref C ∧ cv = .ref C) ∨ (∃ T, c = .ty T ∧ cv = .type T)) ∧ kitOne X.K t cv = some b ∧ Q (.bl b) H) := by
 intro pins s σ H xs us Q I r h
 obtain ⟨v, c, t, cv, b, rfl, hc, hcv, e, q⟩ := h
 obtain ⟨u, w', rfl, ru, rt⟩ := vals2 r
 have ew : w' = cv := by
  rcases hcv with ⟨C, rfl, rfl⟩ | ⟨T, rfl, rfl⟩
  ·exact rt
  ·exact rt
 subst ew
 have fin : ∀ tk, EP X pins σ Q (.bool b) { s with toks := tk } := fun tk => ⟨.bl b, H, I.tok tk, rfl, q⟩
 rcases hc with ⟨rfl, rfl⟩ | ⟨a, C, rfl, rfl, ha, kk⟩
 ·cases ru
  exact kia_one kitx_none I.kIn True.intro e (fun z => nomatch z) fin
 ·cases ru
  obtain ⟨hφ, _⟩ := (show Qb X.prog X.w H s.heap _ (.ext _) from I.hok _ _ ha)
  obtain ⟨ox, hi⟩ := Gq hφ
  exact kia_one (Gd (ox := ox) kk) I.kIn hi e (fun z => nomatch z) fin
theorem G5 : QO X (.builtin "isinstance") (fun xs H Q => ∃ (v : V) (p : Addr) (t : Value) (Cs : List Addr) (b : Bool), xs = [v, .ref p] ∧ Cau X.K H v t ∧ H p = some (.tup (Cs.map V.ref)) ∧ kitAny X.K t (Cs.map Value.ref) = some b ∧ Q (.bl b) H) := by
 intro pins s σ H xs us Q I r h
 obtain ⟨v, p, t, Cs, b, rfl, hc, hp, e, q⟩ := h
 obtain ⟨u, w', rfl, ru, rt⟩ := vals2 r
 cases (show w' = Value.ref p from rt)
 have fin : ∀ tk, EP X pins σ Q (.bool b) { s with toks := tk } := fun tk => ⟨.bl b, H, I.tok tk, rfl, q⟩
 obtain ⟨its, rv, ⟨⟨cls, dd, data, sl⟩, ho, hc', n, hda⟩, _⟩ := I.tuple (.inl (.inl hp))
 simp only at hc' hda
 subst hc' hda
 have ei : ∀ (Cs : List Addr) (its : List Value), Vals (Cs.map V.ref) its → its = Cs.map Value.ref := by
  intro Cs
  induction Cs with
  | nil => intro its z; cases z; rfl
  | cons c r ih =>
   intro its z
   cases z with
   | cons a1 a2 => rw [ih _ a2, show _ = Value.ref c from a1]; rfl
 have ej := ei _ _ rv
 subst ej
 rcases hc with ⟨rfl, rfl⟩ | ⟨a, C, rfl, rfl, ha, kk⟩
 ·cases ru
  exact kia_tup kitx_none I.kIn True.intro ho e (fun z => nomatch z) fin
 ·cases ru
  obtain ⟨hφ, _⟩ := (show Qb X.prog X.w H s.heap _ (.ext _) from I.hok _ _ ha)
  obtain ⟨ox, hi⟩ := Gq hφ
  exact kia_tup (Gd (ox := ox) kk) I.kIn hi ho e (fun z => nomatch z) fin
noncomputable def D6 (K : PySem.W.Frag) : D1 := fun xs M Φ => match xs with | [x, y] => Hx K x M fun t => ∃ c b, Zbm y = some c ∧ kitOne K t c = some b ∧ Φ (.dat (.bool b)) M | _ => False
theorem Fd (K : PySem.W.Frag) (x y : DV) (M : Mp) (Φ : DK) : D6 K [x, y] M Φ = (Hx K x M fun t => ∃ c b, Zbm y = some c ∧ kitOne K t c = some b ∧ Φ (.dat (.bool b)) M) := propext Iff.rfl
theorem Di : JX X (.builtin "isinstance") (D6 X.K) := by
 refine ⟨_, B7, fun vs H xs M Φ Q r rv h k => ?_⟩
 replace h : ∃ x y, xs = [x, y] ∧ Hx X.K x M fun t => ∃ c b, Zbm y = some c ∧ kitOne X.K t c = some b ∧ Φ (.dat (.bool b)) M := by
  unfold D6 at h
  split at h
  ·exact ⟨_, _, rfl, h⟩
  ·exact h.elim
 obtain ⟨x, y, rfl, h⟩ := h
 obtain ⟨v, u, rfl, h1, h2⟩ := Paired.two rv
 obtain ⟨t, hc, c, b, e1, e2, q⟩ := Dd h r h1
 refine ⟨v, u, t, c, b, rfl, hc, ?_, e2, k.dat r Step.refl (Dt.bl _) q⟩
 cases y with
 | own C => cases e1; exact .inl ⟨C, h2, rfl⟩
 | ty T => cases e1; exact .inr ⟨T, h2, rfl⟩
 | dat d => cases e1
 | mix xs => cases e1
noncomputable def DN (X : Cx) (es : List Expr) (Cs : List Addr) : Prop := PA X es (fun _ H Q => Q (Cs.map V.ref) H)
theorem RN : DN X [] [] := Xf
theorem QY {x : Str} {C : Addr} {Cs : List Addr} {p : Pos} {es : List Expr} (hg : Gl X x) (hm : X.mg x = some (.ref C)) (h : DN X es Cs) (hs : starEach (.Name x p :: es) X.env = (false, eval (.Name x p) X.env) :: starEach es X.env := by rfl) (hd : (x == ("__debug__" : Str)) = false := by decide) : DN X (.Name x p :: es) (C :: Cs) := Jg (UZ (v := .ref C) hg hm rfl hd) h hs
noncomputable def L8 (K : PySem.W.Frag) (Cs : List Addr) (te : DTE) : DTE := fun Δ M Φ => te Δ M fun x M1 => Hx K x M1 fun t => ∃ b, kitAny K t (Cs.map Value.ref) = some b ∧ Φ (.dat (.bool b)) M1
theorem HD (K : PySem.W.Frag) (Cs : List Addr) (te : DTE) (Δ : DSt) (M : Mp) (Φ : DK) : L8 K Cs te Δ M Φ = (te Δ M fun x M1 => Hx K x M1 fun t => ∃ b, kitAny K t (Cs.map Value.ref) = some b ∧ Φ (.dat (.bool b)) M1) := propext Iff.rfl
theorem LG {e : Expr} {te : DTE} {x1 : Nat} {p pt pos : Pos} {es : List Expr} {Cs : List Addr} (hg : Gl X "isinstance") (hm : X.mg "isinstance" = none) (hv : bootBuiltins "isinstance" = some (.builtin "isinstance")) (he : DE X e te) (hn : DN X es Cs) (hl : Cs.length ≤ 64)
  (hs : starEach [e, .Tuple es x1 pt] X.env = (false, eval e X.env) :: starEach [.Tuple es x1 pt] X.env := by rfl)
  (hs2 : starEach [.Tuple es x1 pt] X.env = (false, eval (.Tuple es x1 pt) X.env) :: starEach [] X.env := by rfl)
  (hpl : (backTo pos (starEach [.Tuple es x1 pt] X.env)).any (·.1) = false := by rfl) :
  DE X (.Call (.Name "isinstance" p) [e, .Tuple es x1 pt] [] pos) (L8 X.K Cs te) := by
 obtain ⟨t0, p0, q0⟩ := he
 refine ⟨_, XH G5 hg hm hv (Jg p0 (Jg (BN hn) Xf hs2) hs) (by decide) (by decide) hs hpl, fun σ H Δ M Φ Q r e h k => ?_⟩
 refine q0 σ H Δ M _ _ r e h fun v H1 x M1 r1 st rv hx => ?_
 obtain ⟨t, hc, b, e2, q⟩ := Dd hx r1 rv
 refine ⟨by rw [sizeLine_eq, List.length_map]; omega, fun a ha => ?_⟩
 exact ⟨v, a, t, Cs, b, rfl, hc.step fun b o z => by rw [Zq fun y => by rw [y, ha] at z; cases z]; exact z, ZT, e2, k.dat (r1.new ha) (st.trans (Step.new ha)) (Dt.bl _) q⟩
end
end DL
namespace DL
open PySem PySem.Spec PyProof.Rows L2 PySem.W
inductive GQ : PyData → Prop
 | one {d : PyData} : Shw d → GQ d
 | tup {ds : List PyData} : (∀ d ∈ ds, GQ d) → GQ (.tuple ds)
 | lst {e : PyData} {ds : List PyData} : (∀ d ∈ e :: ds, GQ d) → GQ (.list (e :: ds))
section
variable {X : Cx} {pins : List (Addr × Obj)} {σ : L2.St} {H : Hp} {s : Shared} {M : Mp}
noncomputable def RpA (X : Cx) (H : Hp) (M : Mp) (h : Heap) (d : PyData) : Prop := ∀ {v : V}, Dt X.K M H v d → ∀ {u : Value}, RelV v u → ∃ as bs, Reads h u d as ∧ ReadAtMost h d.depth bs ∧ ReprK X.prog X.w bs h d.depth u d.shown
theorem Dts.WA : ∀ {vs : List V} {ds : List PyData}, Dts X.K M H vs ds → ∀ {us : List Value}, Vals vs us → (∀ d ∈ ds, RpA X H M s.heap d) →
  ∃ as bs, ReadsAll s.heap us ds as ∧ ReadAtMost s.heap (PyData.depthAll ds) bs ∧ ReprAllK X.prog X.w bs s.heap (PyData.depthAll ds) us (PyData.shownAll ds)
 | _, _, .nil, _, r, _ => by
  cases r
  exact ⟨[], [], .nil, (fun _ h => nomatch h), by simp only [PyData.shownAll]; exact .nil⟩
 | _, _, .cons (d := d) (ds := ds) h1 h2, _, r, hs => by
  cases r with
  | cons r1 r2 =>
   obtain ⟨as, b1, ra, hb1, k1⟩ := hs d List.mem_cons_self h1 r1
   obtain ⟨as', bs', rb, hb, kb⟩ := Dts.WA h2 r2 fun x hx => hs x (List.mem_cons_of_mem _ hx)
   refine ⟨as ++ as', b1 ++ bs', .cons ra rb, ?_, ?_⟩
   ·intro b hm
    simp only [PyData.depthAll]
    rcases List.mem_append.mp hm with hm | hm
    ·obtain ⟨d', as', r', hd'⟩ := hb1 b hm
     exact ⟨d', as', r', Nat.le_trans hd' (Nat.le_max_left _ _)⟩
    ·obtain ⟨d', as', r', hd'⟩ := hb b hm
     exact ⟨d', as', r', Nat.le_trans hd' (Nat.le_max_right _ _)⟩
   ·simp only [PyData.depthAll, PyData.shownAll]
    exact .cons ((k1.more fun b hb => List.mem_append_left _ hb).level_le (Nat.le_max_left _ _)) (kb.more_le (fun b hb => List.mem_append_right _ hb) (Nat.le_max_right _ _))
theorem GQ.rp (I : Inv X pins σ H s) {d : PyData} (hs : GQ d) : RpA X H M s.heap d := by
 induction hs with
 | one sd =>
  intro v h u r
  obtain ⟨as, ra, ha⟩ := Dt.reads I h r
  obtain ⟨b1, hb1, k1⟩ := ReprK.of_reads (prog := X.prog) (w := X.w) ra sd.s (fun hx => ha (by have := sd.m; rw [hx, Bool.true_and] at this; exact this)) sd.z
  exact ⟨as, b1, ra, hb1, k1⟩
 | @tup ds _ ih =>
  intro v h u r
  cases h with
  | @tup a ys _ h1 h2 =>
   cases r
   obtain ⟨its, rv, ⟨o, ho, hc, n, hd⟩, _⟩ := I.tuple h1.sq
   obtain ⟨as, bs, ra, hb, hk⟩ := h2.WA rv ih
   have hr : Reads s.heap (.ref a) (.tuple ds) as := .tuple ho hc hd (by simpa using ra)
   have hna : a ∉ bs := not_mem_of_deeper hr (by simp only [PyData.depth]; omega) hb
   refine ⟨_, a :: bs, hr, ReadAtMost.cons hr (by simp only [PyData.depth]; omega) hb, ?_⟩
   simp only [PyData.depth, PyData.shown]
   exact ReprK.tuple ho hc hd hna (by simpa using hk)
 | @lst e ds _ ih =>
  intro v h u r
  cases h with
  | @lst a ys _ h1 h2 =>
   cases r
   obtain ⟨its, rv, ⟨o, n, ho, hc, _, hd⟩, _⟩ := I.list h1.sq
   obtain ⟨as, bs, ra, hb, hk⟩ := h2.WA rv ih
   have hr : Reads s.heap (.ref a) (.list (e :: ds)) (a :: as) := .list ho hc hd (by simpa using ra)
   have hna : a ∉ bs := not_mem_of_deeper hr (by simp only [PyData.depth]; omega) hb
   have ln := hk.length_eq
   cases its with
   | nil => cases ra
   | cons x l =>
    refine ⟨_, a :: bs, hr, ReadAtMost.cons hr (by simp only [PyData.depth]; omega) hb, ?_⟩
    simp only [PyData.depth, PyData.shown]
    exact ReprK.list ho hc hd hna (by simpa using ln) (fun i y hy => UW hk i y (by simpa using hy))
end
section
variable {X : Cx}
theorem G3 (hg : X.A.guards = some []) (hu : X.A.units + 100 < cLine) : QO X (.builtin "repr") (fun xs H Q => ∃ v d M, xs = [v] ∧ Dt X.K M H v d ∧ GQ d ∧ d.depth ≤ 64 ∧ d.shown.length ≤ sizeLine ∧ Q (.str d.shown) H) := by
 intro pins s σ H xs us Q I r h
 obtain ⟨v, d, M, rfl, hd, hs, hdp, hz, q⟩ := h
 cases hs with
 | one sd => exact Bq hg hu pins s σ H _ us Q I r ⟨v, d, M, rfl, hd, sd.s, sd.m, sd.dp, sd.z, q⟩
 | @tup ds hs =>
  obtain ⟨u, rfl, ru⟩ := vals1 r
  cases hd with
  | @tup a ys _ h1 h2 =>
   cases ru
   obtain ⟨its, rv, ⟨o, ho, hc, n, hdt⟩, _⟩ := I.tuple h1.sq
   obtain ⟨as, bs, ra, hb, hk⟩ := h2.WA rv fun d hd => (hs d hd).rp I
   have hz' : (tupleText (PyData.shownAll ds)).length ≤ sizeLine := by simpa only [PyData.shown] using hz
   have hr : Reads s.heap (.ref a) (.tuple ds) as := .tuple ho hc hdt (by simpa using ra)
   have hna : a ∉ bs := not_mem_of_deeper hr (by simp only [PyData.depth]; omega) hb
   simp only [PyData.depth] at hdp
   refine call_repr_slot (by omega) ⟨o, ho, hc⟩ F.slot_tuple_repr (call_tuple_reprK ho hc hdt hna (by simpa using hk) (show X.A.in1.guards = some [] from hg) (fun b _ => Clear.nil b) (by show X.A.units + 1 + (PyData.depthAll ds + 1) < cLine; omega) (fun _ _ e => e) (fun h' u tk hkk => ⟨_, _, rfl, .str (PyData.tuple ds).shown, H, I.kept hkk, ⟨u, by simp only [PyData.shown]⟩, q⟩) hz')
 | @lst e ds hs =>
  obtain ⟨u, rfl, ru⟩ := vals1 r
  cases hd with
  | @lst a ys _ h1 h2 =>
   cases ru
   obtain ⟨its, rv, ⟨o, n, ho, hc, _, hdt⟩, _⟩ := I.list h1.sq
   obtain ⟨as, bs, ra, hb, hk⟩ := h2.WA rv fun d hd => (hs d hd).rp I
   have hz' : (listText (PyData.shownAll (e :: ds))).length ≤ sizeLine := by simpa only [PyData.shown] using hz
   have hr : Reads s.heap (.ref a) (.list (e :: ds)) (a :: as) := .list ho hc hdt (by simpa using ra)
   have hna : a ∉ bs := not_mem_of_deeper hr (by simp only [PyData.depth]; omega) hb
   simp only [PyData.depth] at hdp
   have ln := hk.length_eq
   cases its with
   | nil => cases ra
   | cons x l =>
    refine call_repr_slot (by omega) ⟨o, ho, hc⟩ F.slot_list_repr.toG (call_list_reprK ho hc hdt hna (by simpa using ln) (fun i y hy => UW hk i y (by simpa using hy)) (show X.A.in1.guards = some [] from hg) (fun b _ => Clear.nil b) (by show X.A.units + 1 + (PyData.depthAll (e :: ds) + 1) < cLine; omega) (fun _ _ e => e) (fun h' u tk hkk => ⟨_, _, rfl, .str (PyData.list (e :: ds)).shown, H, I.kept hkk, ⟨u, by simp only [PyData.shown]⟩, q⟩) hz')
noncomputable def C6 : D1 := fun xs M Φ => on1 xs fun x => onD x fun d => (GQ d ∧ d.depth ≤ 64 ∧ d.shown.length ≤ sizeLine) ∧ Φ (.dat (.str d.shown)) M
theorem Dk (xs : List DV) (M : Mp) (Φ : DK) : C6 xs M Φ = (on1 xs fun x => onD x fun d => (GQ d ∧ d.depth ≤ 64 ∧ d.shown.length ≤ sizeLine) ∧ Φ (.dat (.str d.shown)) M) := propext Iff.rfl
theorem GG {k : Nat} (hr : Vw k X.A) : JX X (.builtin "repr") C6 := by
 refine ⟨_, G3 hr.gd (by have := hr.un; omega), fun vs H xs M Φ Q r rv h k => ?_⟩
 replace h := Zx h
 obtain ⟨x, rfl, h⟩ := h
 replace h := Qa h
 obtain ⟨d, rfl, ⟨h1, h2, h3⟩, q⟩ := h
 obtain ⟨v, rfl, hv⟩ := Paired.one rv
 exact ⟨v, d, M, rfl, hv, h1, h2, h3, k.dat r Step.refl (Dt.str _) q⟩
end
end DL
namespace My
open PySem PySem.Spec PyProof.Rows L2 DL
set_option maxHeartbeats 8000000
noncomputable def top (i : Nat) : Stmt := PySem.Challenge.pw_landsentered_k04_no_shapes.main.body.getD i (.Pass ⟨0, 0, 0, 0⟩)
noncomputable abbrev QK : Stmt := top 2
noncomputable abbrev QJ : Stmt := top 3
noncomputable abbrev Z9 : Stmt := top 5
noncomputable abbrev Q5 : Stmt := top 6
noncomputable abbrev JG : Stmt := top 7
noncomputable abbrev Qq : Stmt := top 8
noncomputable abbrev ZW : Stmt := top 9
noncomputable abbrev Br : Stmt := top 10
noncomputable abbrev Qm : Stmt := top 26
noncomputable abbrev Qo : Stmt := top 27
noncomputable abbrev Qt : Stmt := top 28
noncomputable abbrev Jc : Stmt := top 29
noncomputable abbrev QH : Stmt := top 30
noncomputable abbrev Xq : Stmt := top 32
noncomputable abbrev Xe : Stmt := top 33
noncomputable abbrev J4 : Stmt := top 34
noncomputable abbrev Qr : Stmt := top 35
noncomputable abbrev Q6 : Stmt := top 36
noncomputable abbrev Bj : Stmt := top 37
noncomputable abbrev Qg : Stmt := top 38
noncomputable abbrev Q4 : Stmt := top 39
noncomputable abbrev Xm : Stmt := top 40
noncomputable abbrev VF : Stmt := top 41
noncomputable abbrev Jf : Stmt := top 42
noncomputable abbrev Q1 : Stmt := top 43
noncomputable abbrev GU : Stmt := top 44
theorem Ut : Zt ["thing"] ["thing"] (Ze QK) := ⟨rfl, rfl, rfl, by decide +kernel, rfl, by decide +kernel, by decide +kernel⟩
theorem WT : Zt ["thing"] ["thing"] (Ze QJ) := ⟨rfl, rfl, rfl, by decide +kernel, rfl, by decide +kernel, by decide +kernel⟩
theorem Y3 : Zt ["thing"] ["thing"] (Ze Z9) := ⟨rfl, rfl, rfl, by decide +kernel, rfl, by decide +kernel, by decide +kernel⟩
theorem Bo : Zt ["thing"] ["thing"] (Ze Q5) := ⟨rfl, rfl, rfl, by decide +kernel, rfl, by decide +kernel, by decide +kernel⟩
theorem Cn : Zt ["thing"] ["thing"] (Ze JG) := ⟨rfl, rfl, rfl, by decide +kernel, rfl, by decide +kernel, by decide +kernel⟩
theorem Wv : Zt ["box"] ["box"] (Ze Qq) := ⟨rfl, rfl, rfl, by decide +kernel, rfl, by decide +kernel, by decide +kernel⟩
theorem VW : Zt ["one", "other"] ["one", "other"] (Ze ZW) := ⟨rfl, rfl, rfl, by decide +kernel, rfl, by decide +kernel, by decide +kernel⟩
theorem TU : Zt ["one", "other", "way"] ["one", "other", "way"] (Ze Br) := ⟨rfl, rfl, rfl, by decide +kernel, rfl, by decide +kernel, by decide +kernel⟩
theorem UD : Zt ["thing"] ["thing"] (Ze Qm) := ⟨rfl, rfl, rfl, by decide +kernel, rfl, by decide +kernel, by decide +kernel⟩
theorem Uc : Zt ["boxes"] ["boxes"] (Ze Qo) := ⟨rfl, rfl, rfl, by decide +kernel, rfl, by decide +kernel, by decide +kernel⟩
theorem YZ : Zt ["things", "shape"] ["things"] (Ze Qt) := ⟨rfl, rfl, rfl, by decide +kernel, rfl, by decide +kernel, by decide +kernel⟩
theorem CL : Zt ["thing"] ["thing"] (Ze Jc) := ⟨rfl, rfl, rfl, by decide +kernel, rfl, by decide +kernel, by decide +kernel⟩
theorem Uj : Zt ["thing"] ["thing"] (Ze QH) := ⟨rfl, rfl, rfl, by decide +kernel, rfl, by decide +kernel, by decide +kernel⟩
theorem J0 : Zt ["_law_pen", "_law_many", "_law_at", "_law_cell", "_law_one", "_law_two", "_law_digit"] ["_law_pen", "_law_many"] (Ze Xq) := ⟨rfl, rfl, rfl, by decide +kernel, rfl, by decide +kernel, by decide +kernel⟩
theorem X1 : Zt ["_law_pen", "_law_many", "_law_found", "_law_k"] ["_law_pen", "_law_many"] (Ze Xe) := ⟨rfl, rfl, rfl, by decide +kernel, rfl, by decide +kernel, by decide +kernel⟩
theorem QP : Zt ["_law_pen", "_law_most", "_law_low", "_law_found", "_law_k", "_law_wide_here", "_law_first", "_law_last"] ["_law_pen", "_law_most"] (Ze J4) := ⟨rfl, rfl, rfl, by decide +kernel, rfl, by decide +kernel, by decide +kernel⟩
theorem Qx : Zt ["_law_boxes_here", "_law_by", "_law_off", "_law_found", "_law_low", "_law_high", "_law_first"] ["_law_boxes_here", "_law_by", "_law_off"] (Ze Qr) := ⟨rfl, rfl, rfl, by decide +kernel, rfl, by decide +kernel, by decide +kernel⟩
theorem JL : Zt ["_law_pen", "_law_by", "_law_off"] ["_law_pen"] (Ze Q6) := ⟨rfl, rfl, rfl, by decide +kernel, rfl, by decide +kernel, by decide +kernel⟩
theorem Sa : Zt ["_law_some", "_law_at", "_law_thing"] ["_law_some", "_law_at", "_law_thing"] (Ze Bj) := ⟨rfl, rfl, rfl, by decide +kernel, rfl, by decide +kernel, by decide +kernel⟩
theorem Q8 : Zt ["_law_pen", "_law_far", "_law_some"] ["_law_pen"] (Ze Qg) := ⟨rfl, rfl, rfl, by decide +kernel, rfl, by decide +kernel, by decide +kernel⟩
theorem Qs : Zt ["_law_pen", "_law_box", "_law_odd", "_law_some", "_law_low", "_law_high"] ["_law_pen", "_law_box"] (Ze Q4) := ⟨rfl, rfl, rfl, by decide +kernel, rfl, by decide +kernel, by decide +kernel⟩
theorem J7 : Zt ["_law_pen", "_law_box", "_law_gap", "_law_x", "_law_y", "_law_low", "_law_high"] ["_law_pen", "_law_box"] (Ze Xm) := ⟨rfl, rfl, rfl, by decide +kernel, rfl, by decide +kernel, by decide +kernel⟩
theorem Vs : Zt ["_law_pen", "_law_shape", "_law_at", "_law_way", "_law_gone", "_law_some"] ["_law_pen", "_law_shape"] (Ze VF) := ⟨rfl, rfl, rfl, by decide +kernel, rfl, by decide +kernel, by decide +kernel⟩
theorem Q0 : Zt ["_law_shape", "_law_found", "_law_at", "_law_low", "_law_high"] ["_law_shape"] (Ze Jf) := ⟨rfl, rfl, rfl, by decide +kernel, rfl, by decide +kernel, by decide +kernel⟩
theorem VA : Zt ["_law_thing", "_law_caught", "e"] ["_law_thing"] (Ze Q1) := ⟨rfl, rfl, rfl, by decide +kernel, rfl, by decide +kernel, by decide +kernel⟩
theorem JR : Zt ["_law_script", "_law_pen", "_law_k", "_law_shape", "_law_turn", "_law_thing", "_law_by", "_law_off", "_law_kept"] ["_law_script"] (Ze GU) := ⟨rfl, rfl, rfl, by decide +kernel, rfl, by decide +kernel, by decide +kernel⟩
theorem XA : bootBuiltins "ValueError" = some (.type "ValueError") := by decide +kernel
theorem Cj : bootBuiltins "abs" = some (.builtin "abs") := by decide +kernel
theorem LY : bootBuiltins "all" = some (.builtin "all") := by decide +kernel
theorem MO : bootBuiltins "bool" = some (.type "bool") := by decide +kernel
theorem RC : bootBuiltins "int" = some (.type "int") := by decide +kernel
theorem ZK : bootBuiltins "isinstance" = some (.builtin "isinstance") := by decide +kernel
theorem Jw : bootBuiltins "len" = some (.builtin "len") := by decide +kernel
theorem JZ : bootBuiltins "list" = some (.type "list") := by decide +kernel
theorem LM : bootBuiltins "max" = some (.builtin "max") := by decide +kernel
theorem ZaL : bootBuiltins "range" = some (.type "range") := by decide +kernel
theorem BF : bootBuiltins "repr" = some (.builtin "repr") := by decide +kernel
theorem Tn : bootBuiltins "str" = some (.type "str") := by decide +kernel
theorem Qv : bootBuiltins "tuple" = some (.type "tuple") := by decide +kernel
set_option genInjectivity false in
structure Tx (K : PySem.W.Frag) (mg : Str → Option Value) where
 JF : Addr
 JJ : FuncData
 Z2 : Own K mg "is_whole" QK ["thing"] JF JJ
 Vy : Addr
 VE : FuncData
 Qp : Own K mg "is_short" QJ ["thing"] Vy VE
 Jd : Addr
 Je : FuncData
 QF : Own K mg "is_any_spot" Z9 ["thing"] Jd Je
 YN : Addr
 YS : FuncData
 QL : Own K mg "is_spot" Q5 ["thing"] YN YS
 Ks : Addr
 Kc : FuncData
 V1 : Own K mg "is_box" JG ["thing"] Ks Kc
 JY : Addr
 J3 : FuncData
 Q9 : Own K mg "has_spots" Qq ["box"] JY J3
 QN : Addr
 QM : FuncData
 Qk : Own K mg "steps_between" ZW ["one", "other"] QN QM
 MP : Addr
 NF : FuncData
 WX : Own K mg "gap" Br ["one", "other", "way"] MP NF
 JI : Addr
 JE : FuncData
 Zz : Own K mg "is_shape" Qm ["thing"] JI JE
 VC : Addr
 VH : FuncData
 JD : Own K mg "is_chain" Qo ["boxes"] VC VH
 JM : Addr
 JA : FuncData
 Qu : Own K mg "shape_of" Qt ["things"] JM JA
 X5 : Addr
 Kh : FuncData
 VY : Own K mg "box_of" Jc ["thing"] X5 Kh
 JH : Addr
 JC : FuncData
 Z0 : Own K mg "parts_of" QH ["thing"] JH JC
 Vu : Addr
 Vm : FuncData
 Zh : Own K mg "_law_take" Xq ["_law_pen", "_law_many"] Vu Vm
 CN : Addr
 CT : FuncData
 Yq : Own K mg "_law_wide" Xe ["_law_pen", "_law_many"] CN CT
 W5 : Addr
 U0 : FuncData
 XY : Own K mg "_law_boxes" J4 ["_law_pen", "_law_most"] W5 U0
 JW : Addr
 Vd : FuncData
 Jb : Own K mg "_law_stretched" Qr ["_law_boxes_here", "_law_by", "_law_off"] JW Vd
 Ys : Addr
 Y0 : FuncData
 Vp : Own K mg "_law_stretch" Q6 ["_law_pen"] Ys Y0
 EA : Addr
 FD : FuncData
 VG : Own K mg "_law_put" Bj ["_law_some", "_law_at", "_law_thing"] EA FD
 Jt : Addr
 Jp : FuncData
 QT : Own K mg "_law_odd_number" Qg ["_law_pen"] Jt Jp
 Ye : Addr
 YJ : FuncData
 Vn : Own K mg "_law_odd_box" Q4 ["_law_pen", "_law_box"] Ye YJ
 D5 : Addr
 BA : FuncData
 Yk : Own K mg "_law_away" Xm ["_law_pen", "_law_box"] D5 BA
 Uy : Addr
 UT : FuncData
 X7 : Own K mg "_law_wrong" VF ["_law_pen", "_law_shape"] Uy UT
 XU : Addr
 XE : FuncData
 V8 : Own K mg "_law_listed" Jf ["_law_shape"] XU XE
 YW : Addr
 Yc : FuncData
 Vo : Own K mg "_law_refused" Q1 ["_law_thing"] YW Yc
 Sg : Addr
 Rk : FuncData
 o_law : Own K mg "law" GU ["_law_script"] Sg Rk
 K3 : mg "ValueError" = none
 Ou : mg "abs" = none
 R5 : mg "all" = none
 Se : mg "bool" = none
 Zbu : mg "int" = none
 ZO : mg "isinstance" = none
 YA : mg "len" = none
 YH : mg "list" = none
 Sb : mg "max" = none
 Vf : mg "range" = none
 L9 : mg "repr" = none
 ZbG : mg "str" = none
 QX : mg "tuple" = none
 PL : Tok
 Mh : mg "MOST" = some (.int 999999999999 PL)
 Wq : Tok
 KN : mg "MOST_BOXES" = some (.int 6 Wq)
 Zs : Addr
 YU : mg "NoShape" = some (.ref Zs)
 Y1 : Addr
 Ug : mg "LandError" = some (.ref Y1)
 WZ : Addr
 MS : mg "Clash" = some (.ref WZ)
 Ka : Addr
 Lp : mg "NoLand" = some (.ref Ka)
 X0 : Addr
 EM : mg "NoName" = some (.ref X0)
 UR : Addr
 NP : mg "NoRow" = some (.ref UR)
 J1 : Addr
 UE : mg "NoTelling" = some (.ref J1)
 Kk : Addr
 EN : mg "NoText" = some (.ref Kk)
 Xu : Addr
 EX : mg "NoTime" = some (.ref Xu)
 Kv : Addr
 Lz : mg "NoTurn" = some (.ref Kv)
 Yb : Addr
 DM : mg "NoWatch" = some (.ref Yb)
 Yg : Addr
 Cz : mg "TooMany" = some (.ref Yg)
 K0 : PySem.W.excIn K Zs [.type "ValueError", .type "Exception", .type "BaseException", .type "object"] "ValueError.__new__" = true
 Yu : XC K Zs
 Vb : XG K Zs Y1
 q1 : PySem.W.kitOne K (.ref Zs) (.ref Zs) = some true
 q2 : PySem.W.kitOne K (.ref Zs) (.type "ValueError") = some true
 q3 : PySem.W.kitOne K (.type "NoneType") (.ref Zs) = some false
 q4 : PySem.W.kitAny K (.ref Zs) [.ref WZ, .ref Ka, .ref X0, .ref UR, .ref J1, .ref Kk, .ref Xu, .ref Kv, .ref Yb, .ref Yg] = some false
 q5 : PySem.W.kitAny K (.type "NoneType") [.ref WZ, .ref Ka, .ref X0, .ref UR, .ref J1, .ref Kk, .ref Xu, .ref Kv, .ref Yb, .ref Yg] = some false
local macro_rules | `(tactic| walk_at "hd") => `(tactic| (subst_vars; (try dsimp only); refine DL.Hl fun R hR => ?_))
noncomputable def gp (a b a' b' : Int) : Int := max 0 (max (a' - b) (a - b'))
noncomputable def btw (x y X Y x' y' X' Y' : Int) : Int := max (gp x X x' X') (gp y Y y' Y')
structure B4 where
 x : Int
 y : Int
 X : Int
 Y : Int
noncomputable def bD (b : B4) : PyData := .tuple [.tuple [.int b.x, .int b.y], .tuple [.int b.X, .int b.Y]]
noncomputable def ZH (a b : B4) : Int := btw a.x a.y a.X a.Y b.x b.y b.X b.Y
noncomputable def okB (b : B4) : Bool := decide (b.x ≤ b.X) && decide (b.y ≤ b.Y)
noncomputable def Ud (f ox oy : Int) (b : B4) : B4 := ⟨b.x * f + ox, b.y * f + oy, b.X * f + f - 1 + ox, b.Y * f + f - 1 + oy⟩
noncomputable def toB : PyData → B4
 | .tuple [.tuple [.int x, .int y], .tuple [.int X, .int Y]] => ⟨x, y, X, Y⟩
 | _ => ⟨0, 0, 0, 0⟩
noncomputable def onX (x : DV) (P : B4 → Prop) : Prop := ∃ b, x = .dat (bD b) ∧ P b
theorem Vj (b : B4) (P : B4 → Prop) : onX (.dat (bD b)) P = P b := propext ⟨fun ⟨c, e, h⟩ => by
 rw [DV.dat.injEq] at e
 rw [show b = c from congrArg toB e]
 exact h, fun h => ⟨b, rfl, h⟩⟩
theorem Fc (x y X Y : Int) (P : B4 → Prop) : onX (.dat (.tuple [.tuple [.int x, .int y], .tuple [.int X, .int Y]])) P = P ⟨x, y, X, Y⟩ := Vj ⟨x, y, X, Y⟩ P
theorem YB {x : DV} {P : B4 → Prop} (h : onX x P) : ∃ b, x = .dat (bD b) ∧ P b := h
theorem Ti (b : B4) (M : Mp) (P : List PyData → Prop) : onQ (.dat (bD b)) M P = P [.tuple [.int b.x, .int b.y], .tuple [.int b.X, .int b.Y]] := rfl
theorem Fp (b : B4) (M : Mp) (P : List PyData → Prop) : onQ (.dat (bD b)) M P = P [.tuple [.int b.x, .int b.y], .tuple [.int b.X, .int b.Y]] := propext Iff.rfl
theorem S5 (b : B4) (P : List PyData → Prop) : onT (.dat (bD b)) P = P [.tuple [.int b.x, .int b.y], .tuple [.int b.X, .int b.Y]] := rfl
theorem E7 (b : B4) (P : List PyData → Prop) : onT (.dat (bD b)) P = P [.tuple [.int b.x, .int b.y], .tuple [.int b.X, .int b.Y]] := propext Iff.rfl
theorem Vz : ∀ bs : List B4, (bs.map bD).map toB = bs
 | [] => rfl
 | b :: bs => by rw [List.map_cons, List.map_cons, Vz bs]; rfl
noncomputable def LU (x : DV) (P : List B4 → Prop) : Prop := ∃ bs, x = .dat (.tuple (bs.map bD)) ∧ P bs
noncomputable def Zat (x : DV) (P : List B4 → Prop) : Prop := ∃ bs, x = .dat (.list (bs.map bD)) ∧ P bs
theorem UP {x : DV} {P : List B4 → Prop} (h : LU x P) : ∃ bs, x = .dat (.tuple (bs.map bD)) ∧ P bs := h
theorem N8 {x : DV} {P : List B4 → Prop} (h : Zat x P) : ∃ bs, x = .dat (.list (bs.map bD)) ∧ P bs := h
theorem Xi {as bs : List B4} (h : as.map bD = bs.map bD) : as = bs := by
 rw [← Vz as, h, Vz]
theorem NZ (bs : List B4) (P : List B4 → Prop) : LU (.dat (.tuple (bs.map bD))) P = P bs := propext ⟨fun ⟨cs, e, h⟩ => by
 rw [DV.dat.injEq, PyData.tuple.injEq] at e
 rw [Xi e]
 exact h, fun h => ⟨bs, rfl, h⟩⟩
theorem N3 (bs : List B4) (P : List B4 → Prop) : Zat (.dat (.list (bs.map bD))) P = P bs := propext ⟨fun ⟨cs, e, h⟩ => by
 rw [DV.dat.injEq, PyData.list.injEq] at e
 rw [Xi e]
 exact h, fun h => ⟨bs, rfl, h⟩⟩
noncomputable def ZS : PyData → Bool
 | .int _ => true
 | _ => false
noncomputable def Zm : PyData → Bool
 | .int i => decide (-999999999999 ≤ i) && decide (i ≤ 999999999999)
 | _ => false
noncomputable def JS : PyData → Bool
 | .tuple [a, b] => ZS a && ZS b
 | _ => false
noncomputable def ZN : PyData → Bool
 | .tuple [a, b] => Zm a && Zm b
 | _ => false
noncomputable def Qc : PyData → Bool
 | .tuple [a, b] => ZN a && (ZN b && okB (toB (.tuple [a, b])))
 | _ => false
noncomputable def chB : List B4 → Bool
 | a :: b :: l => decide (ZH a b ≤ 1) && chB (b :: l)
 | _ => true
noncomputable def ZJ : PyData → Bool
 | .tuple ds => (decide (1 ≤ ds.length) && decide (ds.length ≤ 6)) && (ds.all Qc && chB (ds.map toB))
 | _ => false
noncomputable def ZaD (c : Nat) : Bool := decide (97 ≤ c) && decide (c ≤ 122)
noncomputable def Qy : PyData → Bool
 | .str s => (decide (1 ≤ s.length) && decide (s.length ≤ 8)) && s.cps.toList.all ZaD
 | _ => false
noncomputable def WN : PyData → Bool
 | .str s => decide (s.length ≤ 1000)
 | _ => true
noncomputable def Yr : PyData → Bool
 | .int i => decide (0 ≤ i) && decide (i ≤ 1000000000000)
 | _ => false
noncomputable def El : PyData → Bool
 | .int i => decide (0 ≤ i) && decide (i ≤ 999999999999)
 | _ => false
noncomputable def MG : List PyData → Bool
 | [o, s, v] => (isS o (Str.ofString "") || Qy o) && (ZJ s && El v)
 | _ => false
noncomputable def NW : List PyData → Bool
 | [s] => ZN s
 | _ => false
noncomputable def VD (k : PyData) (l : List PyData) : Bool :=
 if isS k (Str.ofString "land") = true then MG l else if isS k (Str.ofString "spot") = true then NW l else l.isEmpty && (isS k (Str.ofString "drop") || isS k (Str.ofString "free"))
noncomputable def Qn : PyData → Bool
 | .tuple (k :: t :: n :: l) => Yr t && (Qy n && VD k l)
 | _ => false
noncomputable def ZbY : PyData → Bool
 | .tuple ds => ds.all WN
 | _ => true
noncomputable def spW : DSp := fun xs M Φ => on1 xs fun x => onD x fun d => Φ (.dat (.bool (ZS d))) M
theorem Zbc (xs : List DV) (M : Mp) (Φ : DK) : spW xs M Φ = (on1 xs fun x => onD x fun d => Φ (.dat (.bool (ZS d))) M) := propext Iff.rfl
noncomputable def ZcK : DSp := fun xs M Φ => on1 xs fun x => onD x fun d => Φ (.dat (.bool (Zm d))) M
theorem T8 (xs : List DV) (M : Mp) (Φ : DK) : ZcK xs M Φ = (on1 xs fun x => onD x fun d => Φ (.dat (.bool (Zm d))) M) := propext Iff.rfl
noncomputable def Zcj : DSp := fun xs M Φ => on1 xs fun x => onD x fun d => Φ (.dat (.bool (JS d))) M
theorem PR (xs : List DV) (M : Mp) (Φ : DK) : Zcj xs M Φ = (on1 xs fun x => onD x fun d => Φ (.dat (.bool (JS d))) M) := propext Iff.rfl
noncomputable def ZbC : DSp := fun xs M Φ => on1 xs fun x => onD x fun d => Φ (.dat (.bool (ZN d))) M
theorem RI (xs : List DV) (M : Mp) (Φ : DK) : ZbC xs M Φ = (on1 xs fun x => onD x fun d => Φ (.dat (.bool (ZN d))) M) := propext Iff.rfl
noncomputable def Zcx : DSp := fun xs M Φ => on1 xs fun x => onD x fun d => Φ (.dat (.bool (Qc d))) M
theorem To (xs : List DV) (M : Mp) (Φ : DK) : Zcx xs M Φ = (on1 xs fun x => onD x fun d => Φ (.dat (.bool (Qc d))) M) := propext Iff.rfl
noncomputable def XJ : DSp := fun xs M Φ => on1 xs fun x => onD x fun d => Φ (.dat (.bool (ZJ d))) M
theorem Cm (xs : List DV) (M : Mp) (Φ : DK) : XJ xs M Φ = (on1 xs fun x => onD x fun d => Φ (.dat (.bool (ZJ d))) M) := propext Iff.rfl
noncomputable def spT : DSp := fun xs M Φ => on1 xs fun x => onD x fun d => Φ (.dat (.bool (Yr d))) M
theorem ZaY (xs : List DV) (M : Mp) (Φ : DK) : spT xs M Φ = (on1 xs fun x => onD x fun d => Φ (.dat (.bool (Yr d))) M) := propext Iff.rfl
noncomputable def ZbU : DSp := fun xs M Φ => on1 xs fun x => onD x fun d => Φ (.dat (.bool (El d))) M
theorem N2 (xs : List DV) (M : Mp) (Φ : DK) : ZbU xs M Φ = (on1 xs fun x => onD x fun d => Φ (.dat (.bool (El d))) M) := propext Iff.rfl
noncomputable def spN : DSp := fun xs M Φ => on1 xs fun x => onD x fun d => WN d = true ∧ Φ (.dat (.bool (Qy d))) M
theorem Zcz (xs : List DV) (M : Mp) (Φ : DK) : spN xs M Φ = (on1 xs fun x => onD x fun d => WN d = true ∧ Φ (.dat (.bool (Qy d))) M) := propext Iff.rfl
noncomputable def ZeV : DSp := fun xs M Φ => on1 xs fun x => onD x fun d => WN d = true ∧ Φ (.dat (.bool (isS d (Str.ofString "") || Qy d))) M
theorem Tr (xs : List DV) (M : Mp) (Φ : DK) : ZeV xs M Φ = (on1 xs fun x => onD x fun d => WN d = true ∧ Φ (.dat (.bool (isS d (Str.ofString "") || Qy d))) M) := propext Iff.rfl
noncomputable def PZ : DSp := fun xs M Φ => on1 xs fun x => onD x fun d => ZbY d = true ∧ Φ (.dat (.bool (Qn d))) M
theorem Ff (xs : List DV) (M : Mp) (Φ : DK) : PZ xs M Φ = (on1 xs fun x => onD x fun d => ZbY d = true ∧ Φ (.dat (.bool (Qn d))) M) := propext Iff.rfl
noncomputable def Ox : DSp := fun xs M Φ => on1 xs fun x => onX x fun b => Φ (.dat (.bool (okB b))) M
theorem Oz (xs : List DV) (M : Mp) (Φ : DK) : Ox xs M Φ = (on1 xs fun x => onX x fun b => Φ (.dat (.bool (okB b))) M) := propext Iff.rfl
noncomputable def Of : DSp := fun xs M Φ => on3 xs fun x y z => onX x fun a => onX y fun b => onI z fun i => (i = 0 ∨ i = 1) ∧ Φ (.dat (.int (if i = 0 then gp a.x a.X b.x b.X else gp a.y a.Y b.y b.Y))) M
theorem ML (xs : List DV) (M : Mp) (Φ : DK) : Of xs M Φ = (on3 xs fun x y z => onX x fun a => onX y fun b => onI z fun i => (i = 0 ∨ i = 1) ∧ Φ (.dat (.int (if i = 0 then gp a.x a.X b.x b.X else gp a.y a.Y b.y b.Y))) M) := propext Iff.rfl
noncomputable def YM : DSp := fun xs M Φ => on2 xs fun x y => onX x fun a => onX y fun b => Φ (.dat (.int (ZH a b))) M
theorem UH (xs : List DV) (M : Mp) (Φ : DK) : YM xs M Φ = (on2 xs fun x y => onX x fun a => onX y fun b => Φ (.dat (.int (ZH a b))) M) := propext Iff.rfl
noncomputable def WY : DSp := fun xs M Φ => on1 xs fun x => LU x fun bs => bs.length ≤ 6 ∧ Φ (.dat (.bool (chB bs))) M
theorem C7 (xs : List DV) (M : Mp) (Φ : DK) : WY xs M Φ = (on1 xs fun x => LU x fun bs => bs.length ≤ 6 ∧ Φ (.dat (.bool (chB bs))) M) := propext Iff.rfl
section
variable {P : Program} {w : World} {K : PySem.W.Frag} {mg : Str → Option Value} {base : Heap}
theorem WG {α : Type} {ds : List α} (h : ds.length = 2) : ∃ a b, ds = [a, b] := by
 match ds, h with
 | [a, b], _ => exact ⟨a, b, rfl⟩
theorem Xg {ds : List PyData} (h : ds.length ≠ 2) : JS (.tuple ds) = false ∧ ZN (.tuple ds) = false ∧ Qc (.tuple ds) = false := by
 match ds, h with
 | [], _ => exact ⟨rfl, rfl, rfl⟩
 | [_], _ => exact ⟨rfl, rfl, rfl⟩
 | [_, _], h => exact absurd rfl h
 | _ :: _ :: _ :: _, _ => exact ⟨rfl, rfl, rfl⟩
theorem GN {d : PyData} (h : ZS d = true) : ∃ i, d = .int i := by
 cases d <;> first | exact ⟨_, rfl⟩ | cases h
theorem Yi {d : PyData} (h : ZS d = false) : Zm d = false := by
 cases d <;> first | rfl | cases h
theorem Zc5 (n : Nat) : decide ((n : Int) = 2) = decide (n = 2) := decide_eq_decide.mpr (by omega)
theorem Mb {d : PyData} (h : JS d = true) : ∃ x y, d = .tuple [.int x, .int y] := by
 cases d with
 | tuple ds =>
  by_cases hl : ds.length = 2
  ·obtain ⟨a, b, rfl⟩ := WG hl
   have h' : ZS a = true ∧ ZS b = true := by simpa [JS] using h
   obtain ⟨x, rfl⟩ := GN h'.1
   obtain ⟨y, rfl⟩ := GN h'.2
   exact ⟨x, y, rfl⟩
  ·rw [(Xg hl).1] at h
   cases h
 | _ => cases h
theorem U2 {d : PyData} (h : JS d = false) : ZN d = false := by
 cases d with
 | tuple ds =>
  by_cases hl : ds.length = 2
  ·obtain ⟨a, b, rfl⟩ := WG hl
   have h' : ZS a = false ∨ ZS b = false := by
    have : (ZS a && ZS b) = false := h
    exact Bool.and_eq_false_iff.mp this
   show (Zm a && Zm b) = false
   rcases h' with h' | h'
   ·rw [Yi h']
    rfl
   ·rw [Yi h', Bool.and_false]
  ·exact (Xg hl).2.1
 | _ => rfl
theorem XF {d : PyData} (h : ZN d = true) : ∃ x y : Int, d = .tuple [.int x, .int y] ∧ Zm (.int x) = true ∧ Zm (.int y) = true := by
 cases q : JS d with
 | false => rw [U2 q] at h; cases h
 | true =>
  obtain ⟨x, y, rfl⟩ := Mb q
  exact ⟨x, y, rfl, Bool.and_eq_true_iff.mp h⟩
theorem box_of {d : PyData} (h : Qc d = true) : ∃ b, d = bD b ∧ okB b = true := by
 cases d with
 | tuple ds =>
  by_cases hl : ds.length = 2
  ·obtain ⟨a, b, rfl⟩ := WG hl
   have h' : ZN a = true ∧ ZN b = true ∧ okB (toB (.tuple [a, b])) = true := by simpa [Qc] using h
   obtain ⟨x, y, rfl, _⟩ := XF h'.1
   obtain ⟨x', y', rfl, _⟩ := XF h'.2.1
   exact ⟨⟨x, y, x', y'⟩, rfl, h'.2.2⟩
  ·rw [(Xg hl).2.2] at h
   cases h
 | _ => cases h
noncomputable def stB (bs : List B4) (j : Nat) : Bool := match bs[j]?, bs[j + 1]? with
 | some a, some b => decide (ZH a b ≤ 1)
 | _, _ => true
theorem Dx : ∀ bs : List B4, chB bs = (List.range (bs.length - 1)).all (stB bs)
 | [] => rfl
 | [_] => rfl
 | a :: b :: l => by
  have ih := Dx (b :: l)
  show (decide (ZH a b ≤ 1) && chB (b :: l)) = (List.range (l.length + 1)).all (stB (a :: b :: l))
  rw [ih, List.range_succ_eq_map, List.all_cons, List.all_map]
  rfl
theorem KU {p : Prop} [Decidable p] {A B : Prop} (h1 : ¬ p → A) (h2 : p → B) : if (!decide p) = true then A else B := by
 by_cases h : p
 ·rw [decide_eq_true h, if_neg (by decide)]
  exact h2 h
 ·rw [decide_eq_false h, if_pos (by decide)]
  exact h1 h
theorem GH : ∀ {ds : List PyData}, ds.all Qc = true → ∃ bs : List B4, ds = bs.map bD
 | [], _ => ⟨[], rfl⟩
 | d :: ds, h => by
  rw [List.all_cons, Bool.and_eq_true] at h
  obtain ⟨b, rfl, _⟩ := box_of h.1
  obtain ⟨bs, rfl⟩ := GH h.2
  exact ⟨b :: bs, rfl⟩
theorem YE {ds : List PyData} (h : ¬ 1 ≤ (ds.length : Int) ∨ ¬ (ds.length : Int) ≤ 6) : ZJ (.tuple ds) = false := by
 show ((decide (1 ≤ ds.length) && decide (ds.length ≤ 6)) && _) = false
 rcases h with h | h
 ·rw [decide_eq_false (show ¬ 1 ≤ ds.length by omega)]
  rfl
 ·rw [decide_eq_false (show ¬ ds.length ≤ 6 by omega), Bool.and_false]
  rfl
theorem Zfx (c : Nat) : (!decide ((⟨#[c]⟩ : Str).cps.toList < (Str.ofString "a").cps.toList)) = decide (97 ≤ c) := by
 rw [Kw, show (Str.ofString "a").cps.toList = [97] by decide +kernel]
 by_cases h : 97 ≤ c
 ·rw [decide_eq_true h, decide_eq_false (fun z => by simp [List.cons_lt_cons_iff] at z; omega)]
  rfl
 ·rw [decide_eq_false h, decide_eq_true (by simp [List.cons_lt_cons_iff]; omega)]
  rfl
theorem Zex (c : Nat) : (!decide ((Str.ofString "z").cps.toList < (⟨#[c]⟩ : Str).cps.toList)) = decide (c ≤ 122) := by
 rw [Kw, show (Str.ofString "z").cps.toList = [122] by decide +kernel]
 by_cases h : c ≤ 122
 ·rw [decide_eq_true h, decide_eq_false (fun z => by simp [List.cons_lt_cons_iff] at z; omega)]
  rfl
 ·rw [decide_eq_false h, decide_eq_true (by simp [List.cons_lt_cons_iff]; omega)]
  rfl
theorem PM {s : Str} (h : ¬ 1 ≤ (s.length : Int) ∨ ¬ (s.length : Int) ≤ 8) : Qy (.str s) = false := by
 show ((decide (1 ≤ s.length) && decide (s.length ≤ 8)) && s.cps.toList.all ZaD) = false
 rcases h with h | h
 ·rw [decide_eq_false (show ¬ 1 ≤ s.length by omega)]
  rfl
 ·rw [decide_eq_false (show ¬ s.length ≤ 8 by omega), Bool.and_false]
  rfl
theorem RM {ds : List PyData} (h : ds.length < 3) : Qn (.tuple ds) = false := by
 match ds, h with
 | [], _ => rfl
 | [_], _ => rfl
 | [_, _], _ => rfl
theorem ZaA {α : Type} {ds : List α} (h : ¬ ds.length < 3) : ∃ a b c l, ds = a :: b :: c :: l := by
 match ds, h with
 | [], h => exact absurd (by simp) h
 | [_], h => exact absurd (by simp) h
 | [_, _], h => exact absurd (by simp) h
 | a :: b :: c :: l, _ => exact ⟨a, b, c, l, rfl⟩
theorem ZaN {α : Type} {ds : List α} (h : ds.length = 3) : ∃ a b c, ds = [a, b, c] := by
 match ds, h with
 | [a, b, c], _ => exact ⟨a, b, c, rfl⟩
theorem ZdA {α : Type} {ds : List α} (h : ds.length = 1) : ∃ a, ds = [a] := by
 match ds, h with
 | [a], _ => exact ⟨a, rfl⟩
theorem ZbW {l : List PyData} (h : l.length ≠ 3) : MG l = false := by
 match l, h with
 | [], _ => rfl
 | [_], _ => rfl
 | [_, _], _ => rfl
 | [_, _, _], h => exact absurd rfl h
 | _ :: _ :: _ :: _ :: _, _ => rfl
theorem ZbJ {l : List PyData} (h : l.length ≠ 1) : NW l = false := by
 match l, h with
 | [], _ => rfl
 | [_], h => exact absurd rfl h
 | _ :: _ :: _, _ => rfl
theorem at3 {a b c d : PyData} {l : List PyData} (P : PyData → Prop) : Km (a :: b :: c :: d :: l) 3 P = P d := rfl
noncomputable def Z5 : PyData → Option (List PyData)
 | .list l => some l
 | .tuple l => some l
 | _ => none
noncomputable def allM (f : PyData → Option PyData) : List PyData → Option (List PyData)
 | [] => some []
 | c :: l => (f c).bind fun y => (allM f l).map (y :: ·)
noncomputable def oX {α : Type} (o : Option α) (f : α → Prop) (e : Prop) : Prop := match o with
 | some a => f a
 | none => e
theorem Nm {α : Type} (a : α) (f : α → Prop) (e : Prop) : oX (some a) f e = f a := propext Iff.rfl
theorem Np {α : Type} (f : α → Prop) (e : Prop) : oX none f e = e := propext Iff.rfl
noncomputable def Gv (c : PyData) : Option PyData := (Z5 c).map PyData.tuple
noncomputable def Jn (d : PyData) : Option PyData := (Z5 d).bind fun l => (allM Gv l).map PyData.tuple
noncomputable def YG (d : PyData) : Option PyData := (Z5 d).bind fun l => (allM Jn l).map PyData.tuple
noncomputable def Lj (d : PyData) : Prop := ∀ l, Z5 d = some l → l.length ≤ 1000000
noncomputable def WJ (d : PyData) : Prop := Lj d ∧ ∀ l, Z5 d = some l → ∀ c ∈ l, Lj c
noncomputable def K8 (d : PyData) : Prop := Lj d ∧ ∀ l, Z5 d = some l → ∀ c ∈ l, WJ c
theorem Yz {f : PyData → Option PyData} {c : PyData} (h : f c = none) : ∀ {l : List PyData} {i : Nat}, l[i]? = some c → allM f l = none
 | a :: l, 0, e => by
  cases e
  show (f c).bind _ = none
  rw [h]
  rfl
 | a :: l, i + 1, e => by
  show (f a).bind (fun y => (allM f l).map (y :: ·)) = none
  rw [Yz h (l := l) (i := i) e]
  cases f a <;> rfl
theorem YO {f : PyData → Option PyData} {c y : PyData} (h : f c = some y) : ∀ {l acc : List PyData}, allM f l = some acc → allM f (l ++ [c]) = some (acc ++ [y])
 | [], acc, e => by
  cases e
  show (f c).bind (fun y => (allM f []).map (y :: ·)) = _
  rw [h]
  rfl
 | a :: l, acc, e => by
  have e' : (f a).bind (fun y => (allM f l).map (y :: ·)) = some acc := e
  show (f a).bind (fun y => (allM f (l ++ [c])).map (y :: ·)) = _
  cases q : f a with
  | none => rw [q] at e'; cases e'
  | some b =>
   rw [q] at e'
   cases q2 : allM f l with
   | none => rw [Option.bind_some, q2] at e'; cases e'
   | some bs =>
    rw [Option.bind_some, q2] at e'
    cases e'
    rw [Option.bind_some, YO h q2]
    rfl
theorem take_one {l : List PyData} {i : Nat} {c : PyData} (h : l[i]? = some c) : l.take (i + 1) = l.take i ++ [c] := by
 rw [List.take_succ, h]
 rfl
theorem Vk {d : PyData} {l : List PyData} (h : Z5 d = some l) : d = .list l ∨ d = .tuple l := by
 cases d <;> first | (cases h; exact .inl rfl) | (cases h; exact .inr rfl) | cases h
noncomputable def VZ (T : Tx K mg) : Bx := fun xs M Φ Ξ => on1 xs fun x => onD x fun d => oX (Z5 d) (fun _ => Φ (.dat d) M) (Ξ (.ref T.Zs) M)
theorem Bd (T : Tx K mg) (xs : List DV) (M : Mp) (Φ : DK) (Ξ : DXK) : VZ T xs M Φ Ξ = (on1 xs fun x => onD x fun d => oX (Z5 d) (fun _ => Φ (.dat d) M) (Ξ (.ref T.Zs) M)) := propext Iff.rfl
noncomputable def CG (T : Tx K mg) : Bx := fun xs M Φ Ξ => on1 xs fun x => onD x fun d => WJ d ∧ oX (Jn d) (fun b => Φ (.dat b) M) (Ξ (.ref T.Zs) M)
theorem FX (T : Tx K mg) (xs : List DV) (M : Mp) (Φ : DK) (Ξ : DXK) : CG T xs M Φ Ξ = (on1 xs fun x => onD x fun d => WJ d ∧ oX (Jn d) (fun b => Φ (.dat b) M) (Ξ (.ref T.Zs) M)) := propext Iff.rfl
noncomputable def Z6 (d : PyData) : Option PyData := (YG d).bind fun s => if ZJ s then some s else none
noncomputable def V4 (T : Tx K mg) : Bx := fun xs M Φ Ξ => on1 xs fun x => onD x fun d => K8 d ∧ oX (Z6 d) (fun b => Φ (.dat b) M) (Ξ (.ref T.Zs) M)
theorem Bt (T : Tx K mg) (xs : List DV) (M : Mp) (Φ : DK) (Ξ : DXK) : V4 T xs M Φ Ξ = (on1 xs fun x => onD x fun d => K8 d ∧ oX (Z6 d) (fun b => Φ (.dat b) M) (Ξ (.ref T.Zs) M)) := propext Iff.rfl
noncomputable def Ph : DSp := fun xs M Φ => on1 xs fun x => onD x fun d => K8 d ∧ (∃ p ds, M p = some (.lst ds)) ∧ (∀ M', (∀ a o, M a = some o → M' a = some o) → Φ (.dat (.bool (Z6 d).isNone)) M')
theorem Pb (xs : List DV) (M : Mp) (Φ : DK) : Ph xs M Φ = (on1 xs fun x => onD x fun d => K8 d ∧ (∃ p ds, M p = some (.lst ds)) ∧ (∀ M', (∀ a o, M a = some o → M' a = some o) → Φ (.dat (.bool (Z6 d).isNone)) M')) := propext Iff.rfl
noncomputable def Zba (o : OO) : Prop := ∃ (ns : List Int) (i b : Int), 0 ≤ i ∧ o = .lst [.list (ns.map PyData.int), .int i, .int b]
noncomputable def Pen (M : Mp) (p : Addr) : Prop := ∃ o, Zba o ∧ M p = some o
theorem Pen.ZF {M : Mp} {p : Addr} {o : OO} (h : Zba o) : Pen (ZF M p o) p := ⟨o, h, Qe⟩
theorem Pen.ne {M : Mp} {p q : Addr} (h : Pen M p) (hq : M q = none) : p ≠ q := fun e => by
 obtain ⟨o, _, ho⟩ := h
 rw [e, hq] at ho
 cases ho
theorem Pen.put {M : Mp} {p q : Addr} {o : OO} (h : Pen M p) (hq : p ≠ q) : Pen (DL.ZF M q o) p := by
 obtain ⟨o', h1, h2⟩ := h
 exact ⟨o', h1, by rw [ZV hq]; exact h2⟩
theorem Pen.del {M : Mp} {p q : Addr} (h : Pen M p) (hq : p ≠ q) : Pen (DL.V5 M q) p := by
 obtain ⟨o', h1, h2⟩ := h
 exact ⟨o', h1, by rw [YI hq]; exact h2⟩
noncomputable def Zds (x : DV) (P : List Int → Prop) : Prop := ∃ ns, x = .dat (.list (ns.map PyData.int)) ∧ P ns
theorem Zbw {x : DV} {P : List Int → Prop} (h : Zds x P) : ∃ ns, x = .dat (.list (ns.map PyData.int)) ∧ P ns := h
theorem V9 : ∀ {as bs : List Int}, as.map PyData.int = bs.map PyData.int → as = bs
 | [], [], _ => rfl
 | [], _ :: _, h => by simp at h
 | _ :: _, [], h => by simp at h
 | a :: as, b :: bs, h => by
  rw [List.map_cons, List.map_cons, List.cons.injEq, PyData.int.injEq] at h
  rw [h.1, V9 h.2]
theorem OE (bs : List Int) (P : List Int → Prop) : Zds (.dat (.list (bs.map PyData.int))) P = P bs := propext ⟨fun ⟨cs, e, h⟩ => by
 rw [DV.dat.injEq, PyData.list.injEq] at e
 rw [V9 e]
 exact h, fun h => ⟨bs, rfl, h⟩⟩
theorem tab {l : List Int} {r : Int} (P : Int → Prop) (h0 : 0 ≤ r) (h1 : r < l.length) (hl : ∀ w ∈ l, P w) {Q : PyData → Prop} (k : ∀ w, P w → Q (.int w)) : Km (l.map PyData.int) r Q := by
 obtain ⟨w, hw, e⟩ := N0 h0 h1
 exact Qz e (k w (hl w hw))
noncomputable def Fr (p : Addr) (M M' : Mp) : Prop := Pen M' p ∧ ∀ a, a ≠ p → M a ≠ none → M' a = M a
theorem Fr.refl {p : Addr} {M : Mp} (h : Pen M p) : Fr p M M := ⟨h, fun _ _ _ => rfl⟩
theorem Fr.trans {p : Addr} {M M1 M2 : Mp} (h : Fr p M M1) (k : Fr p M1 M2) : Fr p M M2 := ⟨k.1, fun a ha hn => by
 have e := h.2 a ha hn
 rw [← e]
 exact k.2 a ha (by rw [e]; exact hn)⟩
theorem Fr.ZF {p : Addr} {M : Mp} {o : OO} (h : Zba o) : Fr p M (ZF M p o) := ⟨Pen.ZF h, fun a ha _ => ZV ha⟩
theorem Fr.own {p q : Addr} {M M' : Mp} {o : OO} (h : Fr p M M') (hq : M q = some o) (hne : q ≠ p) : M' q = some o := by
 rw [h.2 q hne (by rw [hq]; exact Option.some_ne_none _)]
 exact hq
theorem Fr.new {p q : Addr} {M M' : Mp} {o : OO} (h : Fr p M M') (hq : M q = none) (hne : q ≠ p) : Fr p M (DL.ZF M' q o) := ⟨h.1.put (Ne.symm hne), fun a ha hn => by
 rw [ZV (fun e => hn (by rw [e]; exact hq))]
 exact h.2 a ha hn⟩
noncomputable def Vq : DSp := fun xs M Φ => on2 xs fun x y => onO x fun p => onI y fun m => (0 < m ∧ m < 10 ^ 60) ∧ Pen M p ∧ ∀ r M', 0 ≤ r → r < m → Fr p M M' → Φ (.dat (.int r)) M'
theorem FG (xs : List DV) (M : Mp) (Φ : DK) : Vq xs M Φ = (on2 xs fun x y => onO x fun p => onI y fun m => (0 < m ∧ m < 10 ^ 60) ∧ Pen M p ∧ ∀ r M', 0 ≤ r → r < m → Fr p M M' → Φ (.dat (.int r)) M') := propext Iff.rfl
theorem Pen.get {M : Mp} {p : Addr} (h : Pen M p) : ∃ (ns : List Int) (i b : Int), 0 ≤ i ∧ M p = some (.lst [.list (ns.map PyData.int), .int i, .int b]) := by
 obtain ⟨o, ⟨ns, i, b, hi, eo⟩, hp⟩ := h
 exact ⟨ns, i, b, hi, by rw [hp, eo]⟩
noncomputable def D3 : DSp := fun xs M Φ => on2 xs fun x y => onO x fun p => onI y fun m => (0 < m ∧ m < 10 ^ 60) ∧ Pen M p ∧ ∀ r M', 0 ≤ r → r < m → Fr p M M' → Φ (.dat (.int r)) M'
theorem EB (xs : List DV) (M : Mp) (Φ : DK) : D3 xs M Φ = (on2 xs fun x y => onO x fun p => onI y fun m => (0 < m ∧ m < 10 ^ 60) ∧ Pen M p ∧ ∀ r M', 0 ≤ r → r < m → Fr p M M' → Φ (.dat (.int r)) M') := propext Iff.rfl
noncomputable def Ju (s : Str) : Prop := (1 ≤ s.length ∧ s.length ≤ 8) ∧ ∀ c ∈ s.cps.toList, 97 ≤ c ∧ c ≤ 122
noncomputable def Nml (n : Nat) (ss : List Str) : Prop := (1 ≤ ss.length ∧ ss.length ≤ n) ∧ ∀ s ∈ ss, Ju s
noncomputable def Grb (n : Int) (b : B4) : Prop := (b.x ≤ b.X ∧ b.y ≤ b.Y) ∧ (-(4 * n) ≤ b.x ∧ b.X ≤ 15 + 4 * n) ∧ (-(4 * n) ≤ b.y ∧ b.Y ≤ 15 + 4 * n)
noncomputable def Grd (bs : List B4) : Prop := (1 ≤ bs.length ∧ bs.length ≤ 6) ∧ chB bs = true ∧ ∀ b ∈ bs, Grb 5 b
noncomputable def Frm (f ox oy : Int) : Prop := (1 ≤ f ∧ f ≤ 10000000000) ∧ (-100000000000 ≤ ox ∧ ox ≤ 100000000000) ∧ (-100000000000 ≤ oy ∧ oy ≤ 100000000000)
noncomputable def N5 (f ox oy bg sp : Int) (ts ls : List Str) : OO := .dkv [(.inr (Str.ofString "by"), .int f), (.inr (Str.ofString "off"), .tuple [.int ox, .int oy]), (.inr (Str.ofString "begin"), .int bg), (.inr (Str.ofString "span"), .int sp), (.inr (Str.ofString "things"), .list (ts.map PyData.str)), (.inr (Str.ofString "lands"), .list (ls.map PyData.str))]
noncomputable def Wd (M : Mp) (q : Addr) : Prop := ∃ f ox oy bg sp ts ls, M q = some (N5 f ox oy bg sp ts ls) ∧ Frm f ox oy ∧ (0 ≤ bg ∧ bg ≤ 999999999992) ∧ (1 ≤ sp ∧ sp ≤ 9) ∧ Nml 4 ts ∧ Nml 5 ls
theorem Wd.fr {p q : Addr} {M M' : Mp} (h : Wd M q) (k : Fr p M M') (hne : q ≠ p) : Wd M' q := by
 obtain ⟨f, ox, oy, bg, sp, ts, ls, hq, hh⟩ := h
 exact ⟨f, ox, oy, bg, sp, ts, ls, k.own hq hne, hh⟩
noncomputable def Sh (x : Int) : Prop := -999999999999 ≤ x ∧ x ≤ 999999999999
noncomputable def Pj : DSp := fun xs M Φ => on2 xs fun x y => onO x fun p => onI y fun m => (1 ≤ m ∧ m ≤ 8) ∧ Pen M p ∧ ∀ (ss : List Str) (M' : Mp), ss.length = m.toNat → (∀ s ∈ ss, Ju s) → Fr p M M' → Φ (.dat (.list (ss.map PyData.str))) M'
theorem DU (xs : List DV) (M : Mp) (Φ : DK) : Pj xs M Φ = (on2 xs fun x y => onO x fun p => onI y fun m => (1 ≤ m ∧ m ≤ 8) ∧ Pen M p ∧ ∀ (ss : List Str) (M' : Mp), ss.length = m.toNat → (∀ s ∈ ss, Ju s) → Fr p M M' → Φ (.dat (.list (ss.map PyData.str))) M') := propext Iff.rfl
noncomputable def UU : DSp := fun xs M Φ => on2 xs fun x y => onO x fun p => onI y fun m => (1 ≤ m ∧ m ≤ 6) ∧ Pen M p ∧ ∀ bs M', Grd bs → Fr p M M' → Φ (.dat (.list (bs.map bD))) M'
theorem DH (xs : List DV) (M : Mp) (Φ : DK) : UU xs M Φ = (on2 xs fun x y => onO x fun p => onI y fun m => (1 ≤ m ∧ m ≤ 6) ∧ Pen M p ∧ ∀ bs M', Grd bs → Fr p M M' → Φ (.dat (.list (bs.map bD))) M') := propext Iff.rfl
noncomputable def Va : DSp := fun xs M Φ => on3 xs fun x y z => Zat x fun bs => onI y fun f => onP z fun ox oy => Grd bs ∧ Φ (.dat (.tuple ((bs.map (Ud f ox oy)).map bD))) M
theorem XM (xs : List DV) (M : Mp) (Φ : DK) : Va xs M Φ = (on3 xs fun x y z => Zat x fun bs => onI y fun f => onP z fun ox oy => Grd bs ∧ Φ (.dat (.tuple ((bs.map (Ud f ox oy)).map bD))) M) := propext Iff.rfl
noncomputable def YL : DSp := fun xs M Φ => on1 xs fun x => onO x fun p => Pen M p ∧ ∀ f ox oy M', Frm f ox oy → Fr p M M' → Φ (.dat (.tuple [.int f, .tuple [.int ox, .int oy]])) M'
theorem Ue (xs : List DV) (M : Mp) (Φ : DK) : YL xs M Φ = (on1 xs fun x => onO x fun p => Pen M p ∧ ∀ f ox oy M', Frm f ox oy → Fr p M M' → Φ (.dat (.tuple [.int f, .tuple [.int ox, .int oy]])) M') := propext Iff.rfl
noncomputable def OV : DSp := fun xs M Φ => on1 xs fun x => onO x fun p => Pen M p ∧ ∀ q M', Wd M' q → q ≠ p → Fr p M M' → Φ (.own q) M'
theorem De (xs : List DV) (M : Mp) (Φ : DK) : OV xs M Φ = (on1 xs fun x => onO x fun p => Pen M p ∧ ∀ q M', Wd M' q → q ≠ p → Fr p M M' → Φ (.own q) M') := propext Iff.rfl
noncomputable def Tz : DSp := fun xs M Φ => on2 xs fun x y => onO x fun p => onO y fun q => Wd M q ∧ q ≠ p ∧ Pen M p ∧ ∀ u v M', Sh u → Sh v → Fr p M M' → Φ (.dat (.tuple [.int u, .int v])) M'
theorem E2 (xs : List DV) (M : Mp) (Φ : DK) : Tz xs M Φ = (on2 xs fun x y => onO x fun p => onO y fun q => Wd M q ∧ q ≠ p ∧ Pen M p ∧ ∀ u v M', Sh u → Sh v → Fr p M M' → Φ (.dat (.tuple [.int u, .int v])) M') := propext Iff.rfl
noncomputable def Sz (t : Int) (nm ou : Str) (bs : List B4) (wb : Int) : PyData := .tuple [.str (Str.ofString "land"), .int t, .str nm, .str ou, .tuple (bs.map bD), .int wb]
noncomputable def Tc : DSp := fun xs M Φ => on3 xs fun x y z => onO x fun p => onO y fun q => onI z fun t => Wd M q ∧ q ≠ p ∧ Pen M p ∧
 ∀ nm ou bs f ox oy wb M', Ju nm → (ou = Str.ofString "" ∨ Ju ou) → Grd bs → Frm f ox oy → (0 ≤ wb ∧ wb ≤ 30000000000) → Fr p M M' → Φ (.dat (Sz t nm ou (bs.map (Ud f ox oy)) wb)) M'
theorem Ez (xs : List DV) (M : Mp) (Φ : DK) : Tc xs M Φ = (on3 xs fun x y z => onO x fun p => onO y fun q => onI z fun t => Wd M q ∧ q ≠ p ∧ Pen M p ∧ ∀ nm ou bs f ox oy wb M', Ju nm → (ou = Str.ofString "" ∨ Ju ou) → Grd bs → Frm f ox oy → (0 ≤ wb ∧ wb ≤ 30000000000) → Fr p M M' → Φ (.dat (Sz t nm ou (bs.map (Ud f ox oy)) wb)) M') := propext Iff.rfl
theorem Ju.is {s : Str} (h : Ju s) : Qy (.str s) = true := by
 show ((decide (1 ≤ s.length) && decide (s.length ≤ 8)) && s.cps.toList.all ZaD) = true
 rw [decide_eq_true h.1.1, decide_eq_true h.1.2]
 exact List.all_eq_true.mpr fun c hc => by unfold ZaD; rw [decide_eq_true (h.2 c hc).1, decide_eq_true (h.2 c hc).2]; rfl
noncomputable def Zdf (s : Str) : Prop := ∃ c, s = ⟨#[c]⟩ ∧ 97 ≤ c ∧ c ≤ 122
theorem abc : (Str.ofString "abcdefghijklmnopqrstuvwxyz").cps.toList = (List.range 26).map fun k => 97 + k := by decide +kernel
theorem Zbl : (Str.ofString "abcdefghijklmnopqrstuvwxyz").length = 26 := by decide +kernel
theorem ZdV {i : Int} (h0 : 0 ≤ i) (h1 : i < 26) : ∃ c, L2.atI (Str.ofString "abcdefghijklmnopqrstuvwxyz").cps.toList i = some c ∧ 97 ≤ c ∧ c ≤ 122 := by
 obtain ⟨k, rfl⟩ := Int.eq_ofNat_of_zero_le h0
 refine ⟨97 + k, ?_, by omega, by omega⟩
 rw [abc]
 refine Jx ?_
 rw [List.getElem?_map, List.getElem?_range (by omega)]
 rfl
theorem WH : ∀ {ss : List Str}, (∀ s ∈ ss, Zdf s) → ((ss.map (·.cps.toList)).flatten).length = ss.length ∧ ∀ c ∈ (ss.map (·.cps.toList)).flatten, 97 ≤ c ∧ c ≤ 122
 | [], _ => ⟨rfl, fun c hc => (nomatch hc)⟩
 | s :: ss, h => by
  obtain ⟨c, rfl, hc⟩ := h s List.mem_cons_self
  obtain ⟨i1, i2⟩ := WH fun t ht => h t (List.mem_cons_of_mem _ ht)
  rw [List.map_cons, List.flatten_cons, Kw]
  refine ⟨by rw [List.length_append, i1, List.length_cons]; simp; omega, fun d hd => ?_⟩
  rcases List.mem_append.mp hd with hd | hd
  ·rw [List.mem_singleton.mp hd]
   exact hc
  ·exact i2 d hd
theorem TZ {ss : List Str} (h8 : ss.length = 8) (h : ∀ s ∈ ss, Zdf s) : (Txt.join (Str.ofString "") ss).length = 8 ∧ ∀ c ∈ (Txt.join (Str.ofString "") ss).cps.toList, 97 ≤ c ∧ c ≤ 122 := by
 obtain ⟨i1, i2⟩ := WH h
 rw [← str_len, DL.join_list]
 exact ⟨by omega, i2⟩
theorem tabS {l : List Str} {r : Int} (P : Str → Prop) (h0 : 0 ≤ r) (h1 : r < l.length) (hl : ∀ s ∈ l, P s) {Q : PyData → Prop} (k : ∀ s, P s → Q (.str s)) : Km (l.map PyData.str) r Q := by
 obtain ⟨n, rfl⟩ := Int.eq_ofNat_of_zero_le h0
 have hn : n < l.length := by omega
 refine Qz (d := .str l[n]) (Jx (by rw [List.getElem?_map, List.getElem?_eq_getElem hn]; rfl)) (k _ (hl _ (List.getElem_mem hn)))
theorem R4 : ∀ s ∈ (["land", "drop", "free", "spot", "comes", "goes", "in", "out", "stays", "wait", "none", "a", "z"] : List Str), Ju s := by
 unfold Ju
 decide +kernel
noncomputable def Nms (i : Nat) (acc : List PyData) : Prop := ∃ ss : List Str, acc = ss.map PyData.str ∧ ss.length = i ∧ ∀ s ∈ ss, Ju s
theorem Nms.snoc {i : Nat} {acc : List PyData} {s : Str} (h : Nms i acc) (hs : Ju s) : Nms (i + 1) (acc ++ [.str s]) := by
 obtain ⟨ss, rfl, hl, ha⟩ := h
 refine ⟨ss ++ [s], by rw [List.map_append]; rfl, by rw [List.length_append, hl]; rfl, fun t ht => ?_⟩
 rcases List.mem_append.mp ht with ht | ht
 ·exact ha t ht
 ·rw [List.mem_singleton.mp ht]
  exact hs
theorem Fr.fresh {p q : Addr} {M M' : Mp} (h : Fr p M M') (hq : M' q = none) : M q = none := by
 cases e : M q with
 | none => rfl
 | some o =>
  have hn : q ≠ p := Ne.symm (h.1.ne hq)
  rw [h.own e hn] at hq
  cases hq
theorem Fr.gone {p q : Addr} {M M' : Mp} (h : Fr p M M') (hq : M q = none) (hne : q ≠ p) : Fr p M (DL.V5 M' q) := ⟨h.1.del (Ne.symm hne), fun a ha hn => by
 rw [YI (fun e => hn (by rw [e]; exact hq))]
 exact h.2 a ha hn⟩
theorem GD : ∀ (l : List B4) (b c : B4), chB (l ++ [b, c]) = (chB (l ++ [b]) && decide (ZH b c ≤ 1))
 | [], b, c => by
  show (decide (ZH b c ≤ 1) && true) = (true && decide (ZH b c ≤ 1))
  rw [Bool.and_true, Bool.true_and]
 | [a], b, c => by
  show (decide (ZH a b ≤ 1) && (decide (ZH b c ≤ 1) && true)) = ((decide (ZH a b ≤ 1) && true) && decide (ZH b c ≤ 1))
  rw [Bool.and_true, Bool.and_true]
 | a :: a' :: l, b, c => by
  have ih := GD (a' :: l) b c
  show (decide (ZH a a' ≤ 1) && chB (a' :: l ++ [b, c])) = ((decide (ZH a a' ≤ 1) && chB (a' :: l ++ [b])) && decide (ZH b c ≤ 1))
  rw [ih, Bool.and_assoc]
theorem NR {a b a' b' : Int} (h1 : a' - b ≤ 1) (h2 : a - b' ≤ 1) : gp a b a' b' ≤ 1 := by
 unfold gp
 omega
theorem Hq {a b : B4} (h1 : b.x - a.X ≤ 1) (h2 : a.x - b.X ≤ 1) (h3 : b.y - a.Y ≤ 1) (h4 : a.y - b.Y ≤ 1) : ZH a b ≤ 1 := Int.max_le.mpr ⟨NR h1 h2, NR h3 h4⟩
theorem Zdk {A B : Prop} {p : Prop} [Decidable p] (h1 : p → A) (h2 : ¬ p → B) : if decide p = true then A else B := Zu h1 h2
theorem G4 (k : Key) (d : PyData) (ps : List (Key × PyData)) : QE ((k, d) :: ps) k = some d := by
 unfold QE
 rw [List.find?_cons_of_pos (by simp)]
 rfl
theorem J5 {k k' : Key} (d : PyData) (ps : List (Key × PyData)) (h : k' ≠ k) : QE ((k', d) :: ps) k = QE ps k := by
 unfold QE
 rw [List.find?_cons_of_neg (by simpa using h)]
theorem VJ {ps : List (Key × PyData)} {k : Key} {d : PyData} (e : QE ps k = some d) (Q : PyData → Prop) : (XZ (some (.dkv ps)) fun ps => ∃ d, QE ps k = some d ∧ Q d) = Q d := propext ⟨fun ⟨d', e', h⟩ => by
 rw [e, Option.some.injEq] at e'
 rw [e']
 exact h, fun h => ⟨d, e, h⟩⟩
theorem Zf3 (f ox oy bg sp : Int) (ts ls : List Str) (Q : PyData → Prop) : (XZ (some (N5 f ox oy bg sp ts ls)) fun ps => ∃ d, QE ps (.inr (Str.ofString "by")) = some d ∧ Q d) = Q (.int f) := VJ (G4 _ _ _) Q
theorem Zez (f ox oy bg sp : Int) (ts ls : List Str) (Q : PyData → Prop) : (XZ (some (N5 f ox oy bg sp ts ls)) fun ps => ∃ d, QE ps (.inr (Str.ofString "off")) = some d ∧ Q d) = Q (.tuple [.int ox, .int oy]) := VJ ((J5 _ _ (by decide +kernel)).trans (G4 _ _ _)) Q
theorem ZbT (f ox oy bg sp : Int) (ts ls : List Str) (Q : PyData → Prop) : (XZ (some (N5 f ox oy bg sp ts ls)) fun ps => ∃ d, QE ps (.inr (Str.ofString "begin")) = some d ∧ Q d) = Q (.int bg) := VJ ((J5 _ _ (by decide +kernel)).trans ((J5 _ _ (by decide +kernel)).trans (G4 _ _ _))) Q
theorem Zc4 (f ox oy bg sp : Int) (ts ls : List Str) (Q : PyData → Prop) : (XZ (some (N5 f ox oy bg sp ts ls)) fun ps => ∃ d, QE ps (.inr (Str.ofString "span")) = some d ∧ Q d) = Q (.int sp) := VJ ((J5 _ _ (by decide +kernel)).trans ((J5 _ _ (by decide +kernel)).trans ((J5 _ _ (by decide +kernel)).trans (G4 _ _ _)))) Q
theorem ZaU (f ox oy bg sp : Int) (ts ls : List Str) (Q : PyData → Prop) : (XZ (some (N5 f ox oy bg sp ts ls)) fun ps => ∃ d, QE ps (.inr (Str.ofString "things")) = some d ∧ Q d) = Q (.list (ts.map PyData.str)) := VJ ((J5 _ _ (by decide +kernel)).trans ((J5 _ _ (by decide +kernel)).trans ((J5 _ _ (by decide +kernel)).trans ((J5 _ _ (by decide +kernel)).trans (G4 _ _ _))))) Q
theorem ZbQ (f ox oy bg sp : Int) (ts ls : List Str) (Q : PyData → Prop) : (XZ (some (N5 f ox oy bg sp ts ls)) fun ps => ∃ d, QE ps (.inr (Str.ofString "lands")) = some d ∧ Q d) = Q (.list (ls.map PyData.str)) := VJ ((J5 _ _ (by decide +kernel)).trans ((J5 _ _ (by decide +kernel)).trans ((J5 _ _ (by decide +kernel)).trans ((J5 _ _ (by decide +kernel)).trans ((J5 _ _ (by decide +kernel)).trans (G4 _ _ _)))))) Q
theorem Er {a f lo hi : Int} (h1 : lo ≤ a) (h2 : a ≤ hi) (hf : 1 ≤ f) : lo * f ≤ a * f ∧ a * f ≤ hi * f := ⟨Int.mul_le_mul_of_nonneg_right h1 (by omega), Int.mul_le_mul_of_nonneg_right h2 (by omega)⟩
theorem ZdF (n : Nat) (ls : List Str) : (List.replicate n [PyData.str (Str.ofString "")]).flatten ++ ls.map PyData.str = (List.replicate n (Str.ofString "") ++ ls).map PyData.str := by
 rw [List.map_append, List.map_replicate]
 congr 1
 induction n with
 | zero => rfl
 | succ n ih => rw [List.replicate_succ, List.flatten_cons, ih]; rfl
theorem ZdH {x f r2 : Int} (h0 : 0 ≤ x) (h3 : x ≤ 3) (hf : 1 ≤ f ∧ f ≤ 10000000000) (hr : r2 = 1 ∨ r2 = 2) : 0 ≤ x * f / r2 ∧ x * f / r2 ≤ 30000000000 := by
 have e := Er h0 h3 hf.1
 rcases hr with rfl | rfl <;> omega
structure Pl (k n : Nat) (d : PyData) : Prop where
 s : d.showable = true
 nd : d.hasDict = false
 nl : ZR d = false
 dp : d.depth ≤ k
 z : cost d ≤ n
structure Pls (k n : Nat) (l : List PyData) : Prop where
 s : PyData.showableAll l = true
 nd : PyData.hasDictAll l = false
 nl : ZC l = false
 dp : PyData.depthAll l ≤ k
 z : ZI l ≤ n
structure Od (k n : Nat) (d : PyData) : Prop where
 s : d.showable = true
 m : (d.hasDict && ZR d) = false
 dp : d.depth ≤ k
 z : cost d ≤ n
theorem Pl.od {k n : Nat} {d : PyData} (h : Pl k n d) : Od k n d := ⟨h.s, by rw [h.nd]; rfl, h.dp, h.z⟩
theorem Od.le {k n k' n' : Nat} {d : PyData} (h : Od k n d) (hk : k ≤ k') (hn : n ≤ n') : Od k' n' d := ⟨h.s, h.m, Nat.le_trans h.dp hk, Nat.le_trans h.z hn⟩
theorem Pl.le {k n k' n' : Nat} {d : PyData} (h : Pl k n d) (hk : k ≤ k') (hn : n ≤ n') : Pl k' n' d := ⟨h.s, h.nd, h.nl, Nat.le_trans h.dp hk, Nat.le_trans h.z hn⟩
theorem Od.shw {k n : Nat} {d : PyData} (h : Od k n d) (hk : k ≤ 64) (hn : n ≤ 1000000) : Shw d := Shw.of h.s h.m (Nat.le_trans h.dp hk) (Nat.le_trans h.z hn)
theorem Pls.nil : Pls 0 0 [] := ⟨by simp [PyData.showableAll], by simp [PyData.hasDictAll], by simp [ZC], by simp [PyData.depthAll], by simp [ZI]⟩
theorem Pls.cons {k n k' m : Nat} {d : PyData} {l : List PyData} (h : Pl k n d) (t : Pls k' m l) : Pls (max k k') (n + 2 + m) (d :: l) :=
 ⟨by simp only [PyData.showableAll, h.s, t.s, Bool.and_self], by simp only [PyData.hasDictAll, h.nd, t.nd, Bool.or_self], by simp only [ZC, h.nl, t.nl, Bool.or_self],
  by simp only [PyData.depthAll]; have := h.dp; have := t.dp; omega, by simp only [ZI]; have := h.z; have := t.z; omega⟩
theorem Pls.le {k n k' n' : Nat} {l : List PyData} (h : Pls k n l) (hk : k ≤ k') (hn : n ≤ n') : Pls k' n' l := ⟨h.s, h.nd, h.nl, Nat.le_trans h.dp hk, Nat.le_trans h.z hn⟩
theorem Pls.all {k n m : Nat} : ∀ {l : List PyData}, l.length ≤ m → (∀ d ∈ l, Pl k n d) → Pls k ((n + 2) * m) l
 | [], _, _ => Pls.nil.le (Nat.zero_le _) (Nat.zero_le _)
 | d :: l, hm, h => by
  obtain ⟨m, rfl⟩ : ∃ m', m = m' + 1 := ⟨m - 1, by rw [List.length_cons] at hm; omega⟩
  refine (Pls.cons (h d List.mem_cons_self) (Pls.all (m := m) (by rw [List.length_cons] at hm; omega) fun e he => h e (List.mem_cons_of_mem _ he))).le (by omega) ?_
  rw [Nat.mul_succ]
  omega
theorem Pls.app {k n m : Nat} : ∀ {l l' : List PyData}, Pls k n l → Pls k m l' → Pls k (n + m) (l ++ l')
 | [], l', _, h => h.le (Nat.le_refl _) (by omega)
 | d :: l, l', g, h => by
  have gs := g.s
  have gd := g.nd
  have gl := g.nl
  have gp := g.dp
  have gz := g.z
  simp only [PyData.showableAll, Bool.and_eq_true] at gs
  simp only [PyData.hasDictAll, Bool.or_eq_false_iff] at gd
  simp only [ZC, Bool.or_eq_false_iff] at gl
  simp only [PyData.depthAll] at gp
  simp only [ZI] at gz
  have t := Pls.app (k := k) (l := l) (n := n - (cost d + 2)) ⟨gs.2, gd.2, gl.2, by omega, by omega⟩ h
  exact (Pls.cons (k := k) (d := d) ⟨gs.1, gd.1, gl.1, by omega, Nat.le_refl _⟩ t).le (by omega) (by omega)
theorem Pl.tup {k n : Nat} {l : List PyData} (h : Pls k n l) : Pl (k + 1) (n + 3) (.tuple l) :=
 ⟨by simp only [PyData.showable.eq_6, h.s], by simp only [PyData.hasDict, h.nd], by simp only [ZR, h.nl], by simp only [PyData.depth]; have := h.dp; omega, by simp only [cost]; have := h.z; omega⟩
theorem Od.lst {k n : Nat} {l : List PyData} (h : Pls k n l) : Od (k + 1) (n + 2) (.list l) :=
 ⟨by simp only [PyData.showable, h.s], by simp only [PyData.hasDict, h.nd]; rfl, by simp only [PyData.depth]; have := h.dp; omega, by simp only [cost]; have := h.z; omega⟩
theorem Od.dct : Od 1 2 (.dict []) := ⟨by simp [PyData.showable, PyData.showableKv], by simp [ZR, QR], by simp [PyData.depth, PyData.depthKv], by simp [cost, Yj]⟩
theorem Od.tup {k n a b : Nat} {e : PyData} : ∀ {l l' : List PyData}, Pls k a l → Od k n e → Pls k b l' → PyData.showableAll (l ++ e :: l') = true ∧ PyData.hasDictAll (l ++ e :: l') = e.hasDict ∧ ZC (l ++ e :: l') = ZR e ∧ PyData.depthAll (l ++ e :: l') ≤ k ∧ ZI (l ++ e :: l') ≤ a + (n + 2 + b)
 | [], l', g, h, g' => by
  have := g'.dp
  have := h.dp
  have := g'.z
  have := h.z
  refine ⟨?_, ?_, ?_, ?_, ?_⟩
  ·simp only [List.nil_append, PyData.showableAll, h.s, g'.s, Bool.and_self]
  ·simp only [List.nil_append, PyData.hasDictAll, g'.nd, Bool.or_false]
  ·simp only [List.nil_append, ZC, g'.nl, Bool.or_false]
  ·simp only [List.nil_append, PyData.depthAll]; omega
  ·simp only [List.nil_append, ZI]; omega
 | d :: l, l', g, h, g' => by
  have gs := g.s
  have gd := g.nd
  have gl := g.nl
  have gp := g.dp
  have gz := g.z
  simp only [PyData.showableAll, Bool.and_eq_true] at gs
  simp only [PyData.hasDictAll, Bool.or_eq_false_iff] at gd
  simp only [ZC, Bool.or_eq_false_iff] at gl
  simp only [PyData.depthAll] at gp
  simp only [ZI] at gz
  obtain ⟨t1, t2, t3, t4, t5⟩ := Od.tup (l := l) (a := a - (cost d + 2)) ⟨gs.2, gd.2, gl.2, by omega, by omega⟩ h g'
  refine ⟨?_, ?_, ?_, ?_, ?_⟩
  ·simp only [List.cons_append, PyData.showableAll, gs.1, t1, Bool.and_self]
  ·simp only [List.cons_append, PyData.hasDictAll, gd.1, t2, Bool.false_or]
  ·simp only [List.cons_append, ZC, gl.1, t3, Bool.false_or]
  ·simp only [List.cons_append, PyData.depthAll]; omega
  ·simp only [List.cons_append, ZI]; omega
theorem Od.put {k n a b : Nat} {e : PyData} {l l' : List PyData} (g : Pls k a l) (h : Od k n e) (g' : Pls k b l') : Od (k + 1) (a + (n + 2 + b) + 3) (.tuple (l ++ e :: l')) := by
 obtain ⟨t1, t2, t3, t4, t5⟩ := Od.tup g h g'
 exact ⟨by simp only [PyData.showable.eq_6, t1], by simp only [PyData.hasDict, ZR, t2, t3, h.m], by simp only [PyData.depth]; omega, by simp only [cost]; omega⟩
theorem UQ {i : Int} (h : -(10 ^ 60) ≤ i ∧ i ≤ 10 ^ 60) : Pl 0 1921 (.int i) := ⟨Mid.show ⟨by omega, by omega⟩, by simp [PyData.hasDict], by simp [ZR], by simp [PyData.depth], by simp [cost]⟩
theorem pBl (b : Bool) : Pl 0 5 (.bool b) := ⟨by simp [PyData.showable], by simp [PyData.hasDict], by simp [ZR], by simp [PyData.depth], by simp [cost]⟩
theorem ZcQ : Pl 0 4 .none := ⟨by simp [PyData.showable], by simp [PyData.hasDict], by simp [ZR], by simp [PyData.depth], by simp [cost]⟩
theorem Zdr {s : Str} (h : ∀ c ∈ s.cps.toList, c < 16 ^ 8) {n : Nat} (hn : s.length ≤ n) : Pl 0 (10 * n + 2) (.str s) := ⟨by simp [PyData.showable], by simp [PyData.hasDict], by simp [ZR], by simp [PyData.depth], by
 simp only [cost]
 have := StrLaws.reprText_len s h
 omega⟩
theorem EZ (t : String) : ∀ c ∈ (Str.ofString t).cps.toList, c < 16 ^ 8 := by
 intro c hc
 rw [PySem.Str.ofString_eq_toList] at hc
 simp at hc
 obtain ⟨a, _, rfl⟩ := hc
 have h := a.valid
 show a.val.toNat < 16 ^ 8
 unfold UInt32.isValidChar Nat.isValidChar at h
 omega
theorem HL (t : String) {n : Nat} (hn : (Str.ofString t).length ≤ n) : Pl 0 (10 * n + 2) (.str (Str.ofString t)) := Zdr (EZ t) hn
theorem pNm {s : Str} (h : Ju s) : Pl 0 82 (.str s) := Zdr (n := 8) (fun c hc => by have := h.2 c hc; omega) h.1.2
theorem pSp {x y : Int} (hx : Sh x) (hy : Sh y) : Pl 1 3849 (.tuple [.int x, .int y]) :=
 (Pl.tup (Pls.cons (UQ (by unfold Sh at hx; omega)) (Pls.cons (UQ (by unfold Sh at hy; omega)) Pls.nil))).le (by decide) (by decide)
theorem fc {Q : PyData → Prop} {a : PyData} {l : List PyData} (h : Q a) (k : ∀ d ∈ l, Q d) : ∀ d ∈ a :: l, Q d := fun d hd => by
 rcases List.mem_cons.mp hd with rfl | hd
 ·exact h
 ·exact k d hd
theorem fn {Q : PyData → Prop} : ∀ d ∈ ([] : List PyData), Q d := fun _ h => (nomatch h)
structure Thg (d : PyData) : Prop where
 t : WN d = true
 o : Od 20 90000 d
theorem Od.th {k n : Nat} {d : PyData} (h : Od k n d) (t : WN d = true) (hk : k ≤ 20 := by decide) (hn : n ≤ 90000 := by decide) : Thg d := ⟨t, h.le hk hn⟩
theorem Pl.th {k n : Nat} {d : PyData} (h : Pl k n d) (t : WN d = true) (hk : k ≤ 20 := by decide) (hn : n ≤ 90000 := by decide) : Thg d := h.od.th t hk hn
noncomputable def Wo (bs : List B4) : Prop := (1 ≤ bs.length ∧ bs.length ≤ 6) ∧ chB bs = true ∧ ∀ b ∈ bs, okB b = true ∧ (Sh b.x ∧ Sh b.y) ∧ (Sh b.X ∧ Sh b.Y)
noncomputable def TY (w : Str) (l : List PyData) : Prop := w = Str.ofString "land" ∧ ∃ (ou : Str) (bs : List B4) (wb : Int), l = [.str ou, .tuple (bs.map bD), .int wb] ∧ (ou = Str.ofString "" ∨ Ju ou) ∧ Wo bs ∧ (0 ≤ wb ∧ wb ≤ 30000000000)
noncomputable def Ri (w : Str) (l : List PyData) : Prop := w = Str.ofString "spot" ∧ ∃ u v : Int, l = [.tuple [.int u, .int v]] ∧ Sh u ∧ Sh v
noncomputable def R7 (w : Str) (l : List PyData) : Prop := (w = Str.ofString "drop" ∨ w = Str.ofString "free") ∧ l = []
noncomputable def Tel (ds : List PyData) : Prop := ∃ (w : Str) (t : Int) (nm : Str) (l : List PyData), ds = .str w :: .int t :: .str nm :: l ∧ (0 ≤ t ∧ t ≤ 1000000000000) ∧ Ju nm ∧ (TY w l ∨ Ri w l ∨ R7 w l)
noncomputable def Gw (M M' : Mp) : Prop := ∀ a, M a ≠ none → M' a = M a
theorem Gw.refl {M : Mp} : Gw M M := fun _ _ => rfl
theorem Gw.trans {M M1 M2 : Mp} (h : Gw M M1) (k : Gw M1 M2) : Gw M M2 := fun a ha => by
 rw [k a (by rw [h a ha]; exact ha), h a ha]
theorem Gw.new {M M' : Mp} {q : Addr} {o : OO} (h : Gw M M') (hq : M' q = none) : Gw M (ZF M' q o) := fun a ha => by
 have e := h a ha
 rw [ZV (fun z => ha (by rw [← e, z]; exact hq)), e]
theorem Gw.pen {M M' : Mp} {p : Addr} (h : Gw M M') (hp : Pen M p) : Pen M' p := by
 obtain ⟨o, h1, h2⟩ := hp
 exact ⟨o, h1, by rw [h p (by rw [h2]; exact Option.some_ne_none _)]; exact h2⟩
theorem Gw.wd {M M' : Mp} {q : Addr} (h : Gw M M') (hw : Wd M q) : Wd M' q := by
 obtain ⟨f, ox, oy, bg, sp, ts, ls, hq, hh⟩ := hw
 exact ⟨f, ox, oy, bg, sp, ts, ls, by rw [h q (by rw [hq]; exact Option.some_ne_none _)]; exact hq, hh⟩
noncomputable def Knd (w : Str) (l : List PyData) : Prop := TY w l ∨ Ri w l ∨ R7 w l
theorem Tg {s : Str} (h : Ju s) : WN (.str s) = true := decide_eq_true (by have := h.1; omega)
theorem Yd {bs : List B4} (hs : Wo bs) : Pl 3 46245 (.tuple (bs.map bD)) := by
 refine (Pl.tup (Pls.all (k := 2) (n := 7705) (m := 6) (by rw [List.length_map]; exact hs.1.2) fun d hd => ?_)).le (by decide) (by decide)
 obtain ⟨c, hc, rfl⟩ := List.mem_map.mp hd
 have hc := hs.2.2 c hc
 exact (Pl.tup (Pls.cons (pSp hc.2.1.1 hc.2.1.2) (Pls.cons (pSp hc.2.2.1 hc.2.2.2) Pls.nil))).le (by decide) (by decide)
theorem ND {w : Str} {l : List PyData} (h : Knd w l) : Pls 19 60000 l ∧ l.all WN = true ∧ l.length ≤ 3 ∧ Pl 0 102 (.str w) ∧ WN (.str w) = true := by
 rcases h with ⟨rfl, ou, bs, wb, rfl, ho, hs, hw⟩ | ⟨rfl, u, v, rfl, hu, hv⟩ | ⟨hw, rfl⟩
 ·have po : Pl 0 102 (.str ou) ∧ WN (.str ou) = true := by
   rcases ho with rfl | ho
   ·exact ⟨HL "" (n := 10) (by decide +kernel), by decide +kernel⟩
   ·exact ⟨(pNm ho).le (by decide) (by decide), Tg ho⟩
  refine ⟨(Pls.cons po.1 (Pls.cons (Yd hs) (Pls.cons (UQ (by omega)) Pls.nil))).le (by decide) (by decide), ?_, by simp, HL "land" (n := 10) (by decide +kernel), by decide +kernel⟩
  show (WN (.str ou) && _) = true
  rw [po.2]
  rfl
 ·exact ⟨(Pls.cons (pSp hu hv) Pls.nil).le (by decide) (by decide), rfl, by simp, HL "spot" (n := 10) (by decide +kernel), by decide +kernel⟩
 ·refine ⟨Pls.nil.le (by decide) (by decide), rfl, by simp, ?_⟩
  rcases hw with rfl | rfl
  ·exact ⟨HL "drop" (n := 10) (by decide +kernel), by decide +kernel⟩
  ·exact ⟨HL "free" (n := 10) (by decide +kernel), by decide +kernel⟩
theorem Zfr : isS (.str (Str.ofString "land")) (Str.ofString "land") = true := by decide +kernel
theorem Zev : isS (.str (Str.ofString "spot")) (Str.ofString "land") = false := by decide +kernel
theorem Ze9 : isS (.str (Str.ofString "spot")) (Str.ofString "spot") = true := by decide +kernel
theorem Zdc : isS (.str (Str.ofString "drop")) (Str.ofString "land") = false ∧ isS (.str (Str.ofString "drop")) (Str.ofString "spot") = false := by decide +kernel
theorem Zc6 : isS (.str (Str.ofString "free")) (Str.ofString "land") = false ∧ isS (.str (Str.ofString "free")) (Str.ofString "spot") = false := by decide +kernel
theorem ZfZ : isS (.str (Str.ofString "land")) (Str.ofString "spot") = false ∧ isS (.str (Str.ofString "land")) (Str.ofString "drop") = false ∧ isS (.str (Str.ofString "land")) (Str.ofString "free") = false := by decide +kernel
theorem ZfJ : isS (.str (Str.ofString "spot")) (Str.ofString "drop") = false ∧ isS (.str (Str.ofString "spot")) (Str.ofString "free") = false := by decide +kernel
theorem ZfQ : isS (.str (Str.ofString "drop")) (Str.ofString "drop") = true ∧ isS (.str (Str.ofString "free")) (Str.ofString "drop") = false ∧ isS (.str (Str.ofString "free")) (Str.ofString "free") = true := by decide +kernel
theorem Ry (l : List PyData) : VD (.str (Str.ofString "land")) l = MG l := by unfold VD; rw [if_pos Zfr]
theorem Rm (l : List PyData) : VD (.str (Str.ofString "spot")) l = NW l := by unfold VD; rw [Zev, if_neg (by decide), if_pos Ze9]
theorem ZcY (a : PyData) (l : List PyData) : VD (.str (Str.ofString "drop")) (a :: l) = false := by unfold VD; rw [Zdc.1, Zdc.2]; rfl
theorem Zdq (a : PyData) (l : List PyData) : VD (.str (Str.ofString "free")) (a :: l) = false := by unfold VD; rw [Zc6.1, Zc6.2]; rfl
theorem Zaz {w t n : PyData} {l : List PyData} (h : VD w l = false) : Qn (.tuple (w :: t :: n :: l)) = false := by
 show (_ && (_ && VD w l)) = false
 rw [h, Bool.and_false, Bool.and_false]
theorem ZaE {w t n : PyData} {l : List PyData} (h : Yr t = false) : Qn (.tuple (w :: t :: n :: l)) = false := by
 show (Yr t && _) = false
 rw [h, Bool.false_and]
theorem Zar {w t n : PyData} {l : List PyData} (h : Qy n = false) : Qn (.tuple (w :: t :: n :: l)) = false := by
 show (_ && (Qy n && _)) = false
 rw [h, Bool.false_and, Bool.and_false]
theorem G8 {x : Int} (h : Sh x) : Zm (.int x) = true := by
 show (decide (-999999999999 ≤ x) && decide (x ≤ 999999999999)) = true
 rw [decide_eq_true h.1, decide_eq_true h.2]
 rfl
theorem Ko {bs : List B4} (h : Wo bs) : ZJ (.tuple (bs.map bD)) = true := by
 show ((decide (1 ≤ (bs.map bD).length) && decide ((bs.map bD).length ≤ 6)) && ((bs.map bD).all Qc && chB ((bs.map bD).map toB))) = true
 rw [Vz, h.2.1, List.length_map, decide_eq_true h.1.1, decide_eq_true h.1.2, List.all_eq_true.mpr fun d hd => ?_]
 ·rfl
 ·obtain ⟨b, hb, rfl⟩ := List.mem_map.mp hd
  obtain ⟨h1, ⟨h2, h3⟩, h4, h5⟩ := h.2.2 b hb
  show ((Zm (.int b.x) && Zm (.int b.y)) && ((Zm (.int b.X) && Zm (.int b.Y)) && okB b)) = true
  rw [G8 h2, G8 h3, G8 h4, G8 h5, h1]
  rfl
theorem Pz {w : Str} {l : List PyData} (h : Knd w l) : VD (.str w) l = true := by
 rcases h with ⟨rfl, ou, bs, wb, rfl, ho, hs, hw⟩ | ⟨rfl, u, v, rfl, hu, hv⟩ | ⟨hw, rfl⟩
 ·rw [Ry]
  show ((isS (.str ou) (Str.ofString "") || Qy (.str ou)) && (ZJ (.tuple (bs.map bD)) && (decide (0 ≤ wb) && decide (wb ≤ 999999999999)))) = true
  rw [Ko hs, decide_eq_true hw.1, decide_eq_true (show wb ≤ 999999999999 by omega)]
  rcases ho with rfl | ho
  ·decide +kernel
  ·rw [ho.is, Bool.or_true]
   rfl
 ·rw [Rm]
  show (Zm (.int u) && Zm (.int v)) = true
  rw [G8 hu, G8 hv]
  rfl
 ·rcases hw with rfl | rfl <;> decide +kernel
theorem ZdW {D : List PyData} (h : Tel D) : Qn (.tuple D) = true ∧ ZbY (.tuple D) = true := by
 obtain ⟨w, t, nm, l, rfl, ht, hn, hk⟩ := h
 obtain ⟨_, lt, _, _, wt⟩ := ND hk
 constructor
 ·show ((decide (0 ≤ t) && decide (t ≤ 1000000000000)) && (Qy (.str nm) && VD (.str w) l)) = true
  rw [decide_eq_true ht.1, decide_eq_true ht.2, hn.is, Pz hk]
  rfl
 ·show (WN (.str w) && (true && (WN (.str nm) && l.all WN))) = true
  rw [wt, Tg hn, lt]
  rfl
theorem Mw {a b a' b' f o : Int} (hf : 1 ≤ f) (h : gp a b a' b' ≤ 1) : gp (a * f + o) (b * f + f - 1 + o) (a' * f + o) (b' * f + f - 1 + o) ≤ 1 := by
 have h1 : a' - b ≤ 1 := by unfold gp at h; omega
 have h2 : a - b' ≤ 1 := by unfold gp at h; omega
 have e1 : a' * f ≤ (b + 1) * f := Int.mul_le_mul_of_nonneg_right (by omega) (by omega)
 have e2 : a * f ≤ (b' + 1) * f := Int.mul_le_mul_of_nonneg_right (by omega) (by omega)
 rw [Int.add_mul, Int.one_mul] at e1 e2
 exact NR (by omega) (by omega)
theorem LQ {f ox oy : Int} (hf : 1 ≤ f) : ∀ bs : List B4, chB bs = true → chB (bs.map (Ud f ox oy)) = true
 | [], _ => rfl
 | [_], _ => rfl
 | a :: b :: l, h => by
  have h' : decide (ZH a b ≤ 1) = true ∧ chB (b :: l) = true := Bool.and_eq_true_iff.mp h
  show (decide (ZH (Ud f ox oy a) (Ud f ox oy b) ≤ 1) && chB ((b :: l).map (Ud f ox oy))) = true
  rw [LQ hf (b :: l) h'.2]
  have k := Int.max_le.mp (of_decide_eq_true h'.1)
  rw [decide_eq_true (show ZH (Ud f ox oy a) (Ud f ox oy b) ≤ 1 from Int.max_le.mpr ⟨Mw hf k.1, Mw hf k.2⟩)]
  rfl
theorem Nu {bs : List B4} {f ox oy : Int} (h : Grd bs) (hf : Frm f ox oy) : Wo (bs.map (Ud f ox oy)) := by
 obtain ⟨⟨f1, f2⟩, hx, hy⟩ := hf
 refine ⟨by rw [List.length_map]; exact h.1, LQ f1 bs h.2.1, fun c hc => ?_⟩
 obtain ⟨b, hb, rfl⟩ := List.mem_map.mp hc
 obtain ⟨⟨g1, g2⟩, ⟨g3, g4⟩, g5, g6⟩ := h.2.2 b hb
 have a1 := Er (a := b.x) (lo := -20) (hi := 35) (by omega) (by omega) f1
 have a2 := Er (a := b.y) (lo := -20) (hi := 35) (by omega) (by omega) f1
 have a3 := Er (a := b.X) (lo := -20) (hi := 35) (by omega) (by omega) f1
 have a4 := Er (a := b.Y) (lo := -20) (hi := 35) (by omega) (by omega) f1
 have c1 : b.x * f ≤ b.X * f := Int.mul_le_mul_of_nonneg_right g1 (by omega)
 have c2 : b.y * f ≤ b.Y * f := Int.mul_le_mul_of_nonneg_right g2 (by omega)
 unfold Ud okB Sh
 dsimp only
 refine ⟨?_, ⟨⟨by omega, by omega⟩, by omega, by omega⟩, ⟨by omega, by omega⟩, by omega, by omega⟩
 rw [decide_eq_true (show b.x * f + ox ≤ b.X * f + f - 1 + ox by omega), decide_eq_true (show b.y * f + oy ≤ b.Y * f + f - 1 + oy by omega)]
 rfl
theorem Wd.put {M : Mp} {q g : Addr} {o : OO} (h : Wd M q) (hq : q ≠ g) : Wd (DL.ZF M g o) q := by
 obtain ⟨f, ox, oy, bg, sp, ts, ls, h1, hh⟩ := h
 exact ⟨f, ox, oy, bg, sp, ts, ls, by rw [ZV hq]; exact h1, hh⟩
theorem Wd.del {M : Mp} {q g : Addr} (h : Wd M q) (hq : q ≠ g) : Wd (DL.V5 M g) q := by
 obtain ⟨f, ox, oy, bg, sp, ts, ls, h1, hh⟩ := h
 exact ⟨f, ox, oy, bg, sp, ts, ls, by rw [YI hq]; exact h1, hh⟩
structure Rz (k n : Nat) (d : PyData) : Prop where
 s : d.showable = true
 a : GQ d
 dp : d.depth ≤ k
 z : cost d ≤ n
structure Rzs (k n : Nat) (l : List PyData) : Prop where
 s : PyData.showableAll l = true
 a : ∀ d ∈ l, GQ d
 dp : PyData.depthAll l ≤ k
 z : ZI l ≤ n
theorem Rz.le {k n k' n' : Nat} {d : PyData} (h : Rz k n d) (hk : k ≤ k') (hn : n ≤ n') : Rz k' n' d := ⟨h.s, h.a, Nat.le_trans h.dp hk, Nat.le_trans h.z hn⟩
theorem Rzs.le {k n k' n' : Nat} {l : List PyData} (h : Rzs k n l) (hk : k ≤ k') (hn : n ≤ n') : Rzs k' n' l := ⟨h.s, h.a, Nat.le_trans h.dp hk, Nat.le_trans h.z hn⟩
theorem Od.rz {k n : Nat} {d : PyData} (h : Od k n d) (hk : k ≤ 64 := by decide) (hn : n ≤ 1000000 := by decide) : Rz k n d := ⟨h.s, .one (h.shw hk hn), h.dp, h.z⟩
theorem Pl.rz {k n : Nat} {d : PyData} (h : Pl k n d) (hk : k ≤ 64 := by decide) (hn : n ≤ 1000000 := by decide) : Rz k n d := h.od.rz hk hn
theorem Rzs.nil : Rzs 0 0 [] := ⟨by simp [PyData.showableAll], fun _ h => (nomatch h), by simp [PyData.depthAll], by simp [ZI]⟩
theorem Rzs.cons {k n k' m : Nat} {d : PyData} {l : List PyData} (h : Rz k n d) (t : Rzs k' m l) : Rzs (max k k') (n + 2 + m) (d :: l) :=
 ⟨by simp only [PyData.showableAll, h.s, t.s, Bool.and_self], fun e he => by
  rcases List.mem_cons.mp he with rfl | he
  ·exact h.a
  ·exact t.a e he, by simp only [PyData.depthAll]; have := h.dp; have := t.dp; omega, by simp only [ZI]; have := h.z; have := t.z; omega⟩
theorem Rzs.app {k n m : Nat} : ∀ {l l' : List PyData}, Rzs k n l → Rzs k m l' → Rzs k (n + m) (l ++ l')
 | [], l', _, h => h.le (Nat.le_refl _) (by omega)
 | d :: l, l', g, h => by
  have gs := g.s
  have gp := g.dp
  have gz := g.z
  simp only [PyData.showableAll, Bool.and_eq_true] at gs
  simp only [PyData.depthAll] at gp
  simp only [ZI] at gz
  have t := Rzs.app (k := k) (l := l) (n := n - (cost d + 2)) ⟨gs.2, fun e he => g.a e (List.mem_cons_of_mem _ he), by omega, by omega⟩ h
  exact (Rzs.cons (k := k) (d := d) ⟨gs.1, g.a d List.mem_cons_self, by omega, Nat.le_refl _⟩ t).le (by omega) (by omega)
theorem Rz.tup {k n : Nat} {l : List PyData} (h : Rzs k n l) : Rz (k + 1) (n + 3) (.tuple l) :=
 ⟨by simp only [PyData.showable.eq_6, h.s], .tup h.a, by simp only [PyData.depth]; have := h.dp; omega, by simp only [cost]; have := h.z; omega⟩
theorem Rz.lst {k n : Nat} {d : PyData} {l : List PyData} (h : Rzs k n (d :: l)) : Rz (k + 1) (n + 2) (.list (d :: l)) :=
 ⟨by simp only [PyData.showable, h.s], .lst h.a, by simp only [PyData.depth]; have := h.dp; omega, by simp only [cost]; have := h.z; omega⟩
theorem Rzs.all {k n m : Nat} : ∀ {l : List PyData}, l.length ≤ m → (∀ d ∈ l, Rz k n d) → Rzs k ((n + 2) * m) l
 | [], _, _ => Rzs.nil.le (Nat.zero_le _) (Nat.zero_le _)
 | d :: l, hm, h => by
  obtain ⟨m, rfl⟩ : ∃ m', m = m' + 1 := ⟨m - 1, by rw [List.length_cons] at hm; omega⟩
  refine (Rzs.cons (h d List.mem_cons_self) (Rzs.all (m := m) (by rw [List.length_cons] at hm; omega) fun e he => h e (List.mem_cons_of_mem _ he))).le (by omega) ?_
  rw [Nat.mul_succ]
  omega
theorem Rz.rep {k n : Nat} {d : PyData} (h : Rz k n d) (hk : k ≤ 64) (hn : n ≤ 1000000) : GQ d ∧ d.depth ≤ 64 ∧ d.shown.length ≤ sizeLine := ⟨h.a, Nat.le_trans h.dp hk, Nat.le_trans (Q3 d h.s) (Nat.le_trans h.z (Nat.le_trans hn (by rw [sizeLine_eq]; decide)))⟩
theorem Gz : ∀ l : List PyData, l.length ≤ ZI l
 | [] => by simp [ZI]
 | d :: l => by
  have := Gz l
  rw [List.length_cons, ZI]
  omega
theorem GC : ∀ {l : List PyData} {c : PyData}, c ∈ l → cost c ≤ ZI l
 | d :: l, c, h => by
  rw [ZI]
  rcases List.mem_cons.mp h with rfl | h
  ·omega
  ·have := GC h
   omega
theorem Xd {d : PyData} {l : List PyData} (h : Z5 d = some l) : ZI l ≤ cost d := by
 rcases Vk h with rfl | rfl
 ·rw [cost]; omega
 ·rw [cost]; omega
theorem Xw {d : PyData} (h : cost d ≤ 1000000) : Lj d := fun l e => Nat.le_trans (Gz l) (Nat.le_trans (Xd e) h)
theorem CI {d c : PyData} {l : List PyData} (h : cost d ≤ 1000000) (e : Z5 d = some l) (hc : c ∈ l) : cost c ≤ 1000000 := Nat.le_trans (GC hc) (Nat.le_trans (Xd e) h)
theorem Dl {d : PyData} (h : cost d ≤ 1000000) : WJ d := ⟨Xw h, fun _ e _ hc => Xw (CI h e hc)⟩
theorem KW {d : PyData} (h : cost d ≤ 1000000) : K8 d := ⟨Xw h, fun _ e _ hc => Dl (CI h e hc)⟩
noncomputable def Wr (d : PyData) : Prop := Z6 d = none ∧ Rz 10 500000 d
noncomputable def BG (d : PyData) : Prop := ∀ y, Jn d = some y → Qc y = false
theorem U4 {f : PyData → Option PyData} : ∀ {l ys : List PyData} {c : PyData}, allM f l = some ys → c ∈ l → ∃ y ∈ ys, f c = some y
 | a :: l, ys, c, h, hc => by
  have h' : (f a).bind (fun y => (allM f l).map (y :: ·)) = some ys := h
  cases q : f a with
  | none => rw [q] at h'; cases h'
  | some b =>
   rw [q, Option.bind_some] at h'
   cases q2 : allM f l with
   | none => rw [q2] at h'; cases h'
   | some bs =>
    rw [q2] at h'
    cases h'
    rcases List.mem_cons.mp hc with rfl | hc
    ·exact ⟨b, List.mem_cons_self, q⟩
    ·obtain ⟨y, hy, e⟩ := U4 q2 hc
     exact ⟨y, List.mem_cons_of_mem _ hy, e⟩
theorem X2 {f : PyData → Option PyData} : ∀ {l ys : List PyData}, allM f l = some ys → ys.length = l.length
 | [], ys, h => by cases h; rfl
 | a :: l, ys, h => by
  have h' : (f a).bind (fun y => (allM f l).map (y :: ·)) = some ys := h
  cases q : f a with
  | none => rw [q] at h'; cases h'
  | some b =>
   rw [q, Option.bind_some] at h'
   cases q2 : allM f l with
   | none => rw [q2] at h'; cases h'
   | some bs =>
    rw [q2] at h'
    cases h'
    rw [List.length_cons, List.length_cons, X2 q2]
theorem YT {d : PyData} {l : List PyData} (e : Z5 d = some l) (h : ∀ ys, allM Jn l = some ys → ZJ (.tuple ys) = false) : Z6 d = none := by
 unfold Z6 YG
 rw [e, Option.bind_some]
 cases q : allM Jn l with
 | none => rfl
 | some ys =>
  show (if ZJ (.tuple ys) = true then _ else _) = none
  rw [h ys q]
  rfl
theorem Qw {d : PyData} (e : Z5 d = none) : Z6 d = none := by
 unfold Z6 YG
 rw [e]
 rfl
theorem Q2 {d c : PyData} {l : List PyData} (e : Z5 d = some l) (hc : c ∈ l) (hb : BG c) : Z6 d = none := by
 refine YT e fun ys hy => ?_
 obtain ⟨y, hm, q⟩ := U4 hy hc
 have z : ys.all Qc = false := List.all_eq_false.mpr ⟨y, hm, by rw [hb y q]; decide⟩
 show ((decide _ && decide _) && (ys.all Qc && _)) = false
 rw [z, Bool.false_and, Bool.and_false]
theorem JK {d : PyData} {l : List PyData} (e : Z5 d = some l) (h : l.length = 0 ∨ 6 < l.length) : Z6 d = none := by
 refine YT e fun ys hy => ?_
 have hl := X2 hy
 refine YE ?_
 omega
theorem Cu (b : B4) : Jn (bD b) = some (bD b) := rfl
theorem Yn : ∀ bs : List B4, allM Jn (bs.map bD) = some (bs.map bD)
 | [] => rfl
 | b :: bs => by
  show (Jn (bD b)).bind (fun y => (allM Jn (bs.map bD)).map (y :: ·)) = _
  rw [Cu, Yn bs]
  rfl
theorem Wc {bs : List B4} (h : chB bs = false) : Z6 (.tuple (bs.map bD)) = none := by
 refine YT rfl fun ys hy => ?_
 rw [Yn] at hy
 cases hy
 show (_ && (_ && chB ((bs.map bD).map toB))) = false
 rw [Vz, h, Bool.and_false, Bool.and_false]
theorem Xz : ∀ {l l' : List B4} {a b : B4}, 1 < ZH a b → chB (l ++ a :: b :: l') = false
 | [], l', a, b, h => by
  show (decide (ZH a b ≤ 1) && _) = false
  rw [decide_eq_false (by omega)]
  rfl
 | [c], l', a, b, h => by
  show (decide (ZH c a ≤ 1) && (decide (ZH a b ≤ 1) && _)) = false
  rw [decide_eq_false (show ¬ ZH a b ≤ 1 by omega), Bool.false_and, Bool.and_false]
 | c :: c' :: l, l', a, b, h => by
  show (decide (ZH c c' ≤ 1) && chB (c' :: l ++ a :: b :: l')) = false
  rw [Xz h, Bool.and_false]
structure OS (d : PyData) : Prop where
 sh : Zm d = false
 cr : ∀ t, Gv d = some t → ZN t = false
 rz : Rz 2 3000 d
noncomputable def CJ : DSp := fun xs M Φ => on1 xs fun x => onO x fun p => Pen M p ∧ ∀ d M', OS d → Fr p M M' → Φ (.dat d) M'
theorem HQ (xs : List DV) (M : Mp) (Φ : DK) : CJ xs M Φ = (on1 xs fun x => onO x fun p => Pen M p ∧ ∀ d M', OS d → Fr p M M' → Φ (.dat d) M') := propext Iff.rfl
noncomputable def BW : DSp := fun xs M Φ => on2 xs fun x y => onO x fun p => onX y fun b => ((okB b = true ∧ (Sh b.x ∧ Sh b.y) ∧ (Sh b.X ∧ Sh b.Y)) ∧ Pen M p) ∧ ∀ d M', BG d → Rz 5 60000 d → Fr p M M' → Φ (.dat d) M'
theorem LD (xs : List DV) (M : Mp) (Φ : DK) : BW xs M Φ = (on2 xs fun x y => onO x fun p => onX y fun b => ((okB b = true ∧ (Sh b.x ∧ Sh b.y) ∧ (Sh b.X ∧ Sh b.Y)) ∧ Pen M p) ∧ ∀ d M', BG d → Rz 5 60000 d → Fr p M M' → Φ (.dat d) M') := propext Iff.rfl
noncomputable def Ei : DSp := fun xs M Φ => on2 xs fun x y => onO x fun p => onX y fun b => ((okB b = true ∧ (Sh b.x ∧ Sh b.y) ∧ (Sh b.X ∧ Sh b.Y)) ∧ Pen M p) ∧ ∀ c M', 1 < ZH b c → 1 < ZH c b → Rz 2 8000 (bD c) → Fr p M M' → Φ (.dat (bD c)) M'
theorem FH (xs : List DV) (M : Mp) (Φ : DK) : Ei xs M Φ = (on2 xs fun x y => onO x fun p => onX y fun b => ((okB b = true ∧ (Sh b.x ∧ Sh b.y) ∧ (Sh b.X ∧ Sh b.Y)) ∧ Pen M p) ∧ ∀ c M', 1 < ZH b c → 1 < ZH c b → Rz 2 8000 (bD c) → Fr p M M' → Φ (.dat (bD c)) M') := propext Iff.rfl
noncomputable def Fx : DSp := fun xs M Φ => on3 xs fun x y z => onT x fun ds => onI y fun i => onD z fun d => (0 ≤ i ∧ i < ds.length ∧ ds.length ≤ 6) ∧ Φ (.dat (.tuple (ds.take i.toNat ++ d :: ds.drop (i.toNat + 1)))) M
theorem Ov (xs : List DV) (M : Mp) (Φ : DK) : Fx xs M Φ = (on3 xs fun x y z => onT x fun ds => onI y fun i => onD z fun d => (0 ≤ i ∧ i < ds.length ∧ ds.length ≤ 6) ∧ Φ (.dat (.tuple (ds.take i.toNat ++ d :: ds.drop (i.toNat + 1)))) M) := propext Iff.rfl
noncomputable def Ul : DSp := fun xs M Φ => on2 xs fun x y => onO x fun p => LU y fun bs => (Wo bs ∧ Pen M p) ∧ ∀ d M', Wr d → Fr p M M' → Φ (.dat d) M'
theorem CD (xs : List DV) (M : Mp) (Φ : DK) : Ul xs M Φ = (on2 xs fun x y => onO x fun p => LU y fun bs => (Wo bs ∧ Pen M p) ∧ ∀ d M', Wr d → Fr p M M' → Φ (.dat d) M') := propext Iff.rfl
theorem W9 {i : Int} (h : i < -999999999999 ∨ 999999999999 < i) (h2 : -(10 ^ 60) ≤ i ∧ i ≤ 10 ^ 60) : OS (.int i) := by
 refine ⟨?_, fun t e => (nomatch e), (UQ h2).rz.le (by decide) (by decide)⟩
 show (decide _ && decide _) = false
 rcases h with h | h
 ·rw [decide_eq_false (by omega)]
  rfl
 ·rw [decide_eq_false (show ¬ i ≤ 999999999999 by omega), Bool.and_false]
theorem Ep (t : String) (h : (Str.ofString t).length ≤ 10) : OS (.str (Str.ofString t)) := ⟨rfl, fun _ e => (nomatch e), (HL t h).rz.le (by decide) (by decide)⟩
theorem ZaF {l : List PyData} {r : Int} (P : PyData → Prop) (h0 : 0 ≤ r) (h1 : r < l.length) (hl : ∀ d ∈ l, P d) {Q : PyData → Prop} (k : ∀ d, P d → Q d) : Km l r Q := by
 obtain ⟨d, e, hd⟩ := UC h0 h1
 exact Qz e (k d (hl d hd))
theorem OX : ∀ d ∈ [PyData.bool true, PyData.bool false, PyData.none, PyData.str (Str.ofString "1"), PyData.str (Str.ofString ""), PyData.int 1000000000000, PyData.int (-1000000000000),
  PyData.int 10000000000000000000000000000000000000000000000000000, PyData.list [PyData.int 0], PyData.tuple [], PyData.dict []], OS d :=
 fc ⟨rfl, fun _ e => (nomatch e), (pBl true).rz.le (by decide) (by decide)⟩ (fc ⟨rfl, fun _ e => (nomatch e), (pBl false).rz.le (by decide) (by decide)⟩ (fc ⟨rfl, fun _ e => (nomatch e), ZcQ.rz.le (by decide) (by decide)⟩
  (fc (Ep "1" (by decide +kernel)) (fc (Ep "" (by decide +kernel)) (fc (W9 (by omega) (by decide)) (fc (W9 (by omega) (by decide)) (fc (W9 (by omega) (by decide))
  (fc ⟨rfl, fun _ e => by cases e; rfl, (Od.lst (Pls.cons (UQ (i := 0) (by decide)) Pls.nil)).rz.le (by decide) (by decide)⟩ (fc ⟨rfl, fun _ e => by cases e; rfl, (Pl.tup Pls.nil).rz.le (by decide) (by decide)⟩
  (fc ⟨rfl, fun _ e => (nomatch e), Od.dct.rz.le (by decide) (by decide)⟩ fn))))))))))
theorem hu1 {k : Nat} {A : Around} (hr : Vw k A) : A.units + 1 < cLine := by have := hr.un; omega
theorem MD {n d : Nat} {k : Int} (h : 0 ≤ k) : HT.sIx n d (some k) = min k.toNat n := by
 show (if k < 0 then (k + (n : Int)).toNat else min k.toNat n) = min k.toNat n
 rw [if_neg (by omega)]
theorem V3 {ds : List PyData} {k : Int} (h0 : 0 ≤ k) : DL.cutD ds none (some k) = ds.take k.toNat := by
 unfold DL.cutD
 rw [MD h0, HT.Kp, List.drop_zero, Nat.sub_zero]
 by_cases h : k.toNat ≤ ds.length
 ·rw [Nat.min_eq_left h]
 ·rw [Nat.min_eq_right (by omega), List.take_length, List.take_of_length_le (by omega)]
theorem HF {ds : List PyData} {k : Int} (h0 : 0 ≤ k) (h1 : k ≤ ds.length) : DL.cutD ds (some k) none = ds.drop k.toNat := by
 unfold DL.cutD
 rw [MD h0, HT.Kp, Nat.min_eq_left (by omega), List.take_of_length_le (by rw [List.length_drop]; omega)]
noncomputable def N6 (a : PyData) : Prop := ∀ t, Gv a = some t → ZN t = false
theorem Yo {d : PyData} (e : Z5 d = none) : BG d := fun y h => by
 unfold Jn at h
 rw [e] at h
 cases h
theorem J2 {d : PyData} {l : List PyData} (e : Z5 d = some l) (hl : l.length ≠ 2) : BG d := fun y h => by
 unfold Jn at h
 rw [e, Option.bind_some] at h
 cases q : allM Gv l with
 | none => rw [q] at h; cases h
 | some ys =>
  rw [q] at h
  cases h
  exact (Xg (by rw [X2 q]; exact hl)).2.2
theorem Qi {d a b : PyData} (e : Z5 d = some [a, b]) (h : N6 a ∨ N6 b) : BG d := fun y hy => by
 unfold Jn at hy
 rw [e, Option.bind_some] at hy
 replace hy : ((Gv a).bind fun ya => (((Gv b).bind fun yb => some [yb])).map (ya :: ·)).map PyData.tuple = some y := hy
 cases qa : Gv a with
 | none => rw [qa] at hy; cases hy
 | some ta =>
  cases qb : Gv b with
  | none => rw [qa, qb] at hy; cases hy
  | some tb =>
   rw [qa, qb] at hy
   cases hy
   show (ZN ta && (ZN tb && _)) = false
   rcases h with h | h
   ·rw [h ta qa]
    rfl
   ·rw [h tb qb, Bool.false_and, Bool.and_false]
theorem Md {a b : PyData} (h : Zm a = false) : N6 (.tuple [a, b]) := fun t e => by
 cases e
 show (Zm a && _) = false
 rw [h]
 rfl
theorem RZ {a b : PyData} (h : Zm b = false) : N6 (.tuple [a, b]) := fun t e => by
 cases e
 show (_ && Zm b) = false
 rw [h, Bool.and_false]
theorem Ss {a b : PyData} (h : Zm b = false) : N6 (.list [a, b]) := fun t e => by
 cases e
 show (_ && Zm b) = false
 rw [h, Bool.and_false]
theorem SX {c : B4} (h : okB c = false) : BG (bD c) := fun y e => by
 rw [Cu] at e
 cases e
 show (_ && (_ && okB c)) = false
 rw [h, Bool.and_false, Bool.and_false]
theorem Od.dc1 {a n m : Nat} {k v : PyData} (hk : Pl a n k) (hv : Pl a m v) : Od (a + 1) (n + m + 6) (.dict [(k, v)]) := by
 have := hk.dp
 have := hv.dp
 have := hk.z
 have := hv.z
 exact ⟨by simp [PyData.showable, PyData.showableKv, hk.s, hv.s], by simp [ZR, QR, hk.nl, hv.nl], by simp only [PyData.depth, PyData.depthKv]; omega, by simp only [cost, Yj]; omega⟩
theorem D4 {b : B4} {d : PyData} (hok : okB b = true) (hlo : Sh b.x ∧ Sh b.y) (hhi : Sh b.X ∧ Sh b.Y) (hd : OS d) : ∀ e ∈ [PyData.tuple [PyData.int b.x, PyData.int b.y], PyData.tuple [PyData.tuple [PyData.int b.x, PyData.int b.y]],
  PyData.tuple [PyData.tuple [PyData.int b.x, PyData.int b.y], PyData.tuple [PyData.int b.X, PyData.int b.Y], PyData.tuple [PyData.int b.X, PyData.int b.Y]], PyData.none, PyData.str (Str.ofString "ab"), PyData.int 0, PyData.bool true, PyData.dict [],
  PyData.dict [(PyData.tuple [PyData.int b.x, PyData.int b.y], PyData.tuple [PyData.int b.X, PyData.int b.Y])], PyData.tuple [], PyData.list [], PyData.tuple [PyData.tuple [PyData.int b.x, PyData.int b.y], PyData.tuple [PyData.int b.X]],
  PyData.tuple [PyData.int b.x, PyData.tuple [PyData.int b.X, PyData.int b.Y]], PyData.tuple [PyData.tuple [d, PyData.int b.y], PyData.tuple [PyData.int b.X, PyData.int b.Y]], PyData.tuple [PyData.tuple [PyData.int b.x, d], PyData.tuple [PyData.int b.X, PyData.int b.Y]],
  PyData.tuple [PyData.tuple [PyData.int b.x, PyData.int b.y], PyData.tuple [d, PyData.int b.Y]], PyData.tuple [PyData.tuple [PyData.int b.x, PyData.int b.y], PyData.list [PyData.int b.X, d]], PyData.tuple [d, PyData.tuple [PyData.int b.X, PyData.int b.Y]],
  PyData.list [PyData.tuple [PyData.int b.x, PyData.int b.y], d], PyData.tuple [PyData.tuple [PyData.int (b.X + 1), PyData.int b.y], PyData.tuple [PyData.int b.X, PyData.int b.Y]],
  PyData.tuple [PyData.tuple [PyData.int b.x, PyData.int b.y], PyData.tuple [PyData.int b.X, PyData.int (b.y - 1)]], PyData.tuple [PyData.tuple [PyData.int b.x, PyData.int b.y, PyData.int 0], PyData.tuple [PyData.int b.X, PyData.int b.Y]],
  PyData.tuple [PyData.tuple [PyData.int b.x, PyData.int b.y], PyData.tuple [PyData.int b.X, PyData.int b.Y, PyData.int 0]], PyData.tuple [PyData.str (Str.ofString "ab"), PyData.tuple [PyData.int b.X, PyData.int b.Y]]], BG e ∧ Rz 5 60000 e := by
 have sI : ∀ {i : Int}, Sh i → Rz 0 1921 (.int i) := fun {i} h => (UQ (i := i) (by unfold Sh at h; omega)).rz
 have sJ : ∀ {i : Int}, Sh (i - 1) ∨ Sh (i + 1) → Rz 0 1921 (.int i) := fun {i} h => (UQ (i := i) (by unfold Sh at h; omega)).rz
 have nI : ∀ i : Int, N6 (.int i) := fun i t e => (nomatch e)
 have px := sI hlo.1
 have py := sI hlo.2
 have pX := sI hhi.1
 have pY := sI hhi.2
 have p0 : Rz 0 1921 (.int 0) := (UQ (i := 0) (by decide)).rz
 have pl := (pSp hlo.1 hlo.2).rz
 have ph := (pSp hhi.1 hhi.2).rz
 have pd := hd.rz
 have ps : Rz 0 102 (.str (Str.ofString "ab")) := (HL "ab" (n := 10) (by decide +kernel)).rz
 have t1 : ∀ {k n : Nat} {a : PyData}, Rz k n a → Rz (max k 0 + 1) (n + 2 + 0 + 3) (.tuple [a]) := fun h => Rz.tup (Rzs.cons h Rzs.nil)
 have t2 : ∀ {k n k' n' : Nat} {a c : PyData}, Rz k n a → Rz k' n' c → Rz (max k (max k' 0) + 1) (n + 2 + (n' + 2 + 0) + 3) (.tuple [a, c]) := fun h h' => Rz.tup (Rzs.cons h (Rzs.cons h' Rzs.nil))
 have l2 : ∀ {k n k' n' : Nat} {a c : PyData}, Rz k n a → Rz k' n' c → Rz (max k (max k' 0) + 1) (n + 2 + (n' + 2 + 0) + 2) (.list [a, c]) := fun h h' => Rz.lst (Rzs.cons h (Rzs.cons h' Rzs.nil))
 have t3 : ∀ {k n k' n' k2 n2 : Nat} {a c e : PyData}, Rz k n a → Rz k' n' c → Rz k2 n2 e → Rz (max k (max k' (max k2 0)) + 1) (n + 2 + (n' + 2 + (n2 + 2 + 0)) + 3) (.tuple [a, c, e]) := fun h h' h2 => Rz.tup (Rzs.cons h (Rzs.cons h' (Rzs.cons h2 Rzs.nil)))
 have ok2 : b.x ≤ b.X ∧ b.y ≤ b.Y := by unfold okB at hok; simpa using hok
 have o1 : okB ⟨b.X + 1, b.y, b.X, b.Y⟩ = false := by
  show (decide (b.X + 1 ≤ b.X) && _) = false
  rw [decide_eq_false (by omega)]
  rfl
 have o2 : okB ⟨b.x, b.y, b.X, b.y - 1⟩ = false := by
  show (_ && decide (b.y ≤ b.y - 1)) = false
  rw [decide_eq_false (show ¬ b.y ≤ b.y - 1 by omega), Bool.and_false]
 exact fc ⟨Qi rfl (.inl (nI _)), pl.le (by decide) (by decide)⟩ <| fc ⟨J2 rfl (by simp), (t1 pl).le (by decide) (by decide)⟩ <| fc ⟨J2 rfl (by simp), (t3 pl ph ph).le (by decide) (by decide)⟩ <|
  fc ⟨Yo rfl, ZcQ.rz.le (by decide) (by decide)⟩ <| fc ⟨Yo rfl, ps.le (by decide) (by decide)⟩ <| fc ⟨Yo rfl, p0.le (by decide) (by decide)⟩ <| fc ⟨Yo rfl, (pBl true).rz.le (by decide) (by decide)⟩ <| fc ⟨Yo rfl, Od.dct.rz.le (by decide) (by decide)⟩ <|
  fc ⟨Yo rfl, (Od.dc1 (pSp hlo.1 hlo.2) (pSp hhi.1 hhi.2)).rz.le (by decide) (by decide)⟩ <| fc ⟨J2 rfl (by decide), (Pl.tup Pls.nil).rz.le (by decide) (by decide)⟩ <| fc ⟨J2 rfl (by decide), (Od.lst Pls.nil).rz.le (by decide) (by decide)⟩ <|
  fc ⟨Qi rfl (.inr fun t e => by cases e; rfl), (t2 pl (t1 pX)).le (by decide) (by decide)⟩ <| fc ⟨Qi rfl (.inl (nI _)), (t2 px ph).le (by decide) (by decide)⟩ <| fc ⟨Qi rfl (.inl (Md hd.sh)), (t2 (t2 pd py) ph).le (by decide) (by decide)⟩ <|
  fc ⟨Qi rfl (.inl (RZ hd.sh)), (t2 (t2 px pd) ph).le (by decide) (by decide)⟩ <| fc ⟨Qi rfl (.inr (Md hd.sh)), (t2 pl (t2 pd pY)).le (by decide) (by decide)⟩ <| fc ⟨Qi rfl (.inr (Ss hd.sh)), (t2 pl (l2 pX pd)).le (by decide) (by decide)⟩ <|
  fc ⟨Qi rfl (.inl hd.cr), (t2 pd ph).le (by decide) (by decide)⟩ <| fc ⟨Qi rfl (.inr hd.cr), (l2 pl pd).le (by decide) (by decide)⟩ <|
  fc ⟨SX o1, (t2 (t2 (sJ (.inl (by rw [Int.add_sub_cancel]; exact hhi.1))) py) ph).le (by decide) (by decide)⟩ <| fc ⟨SX o2, (t2 pl (t2 pX (sJ (.inr (by rw [Int.sub_add_cancel]; exact hlo.2))))).le (by decide) (by decide)⟩ <|
  fc ⟨Qi rfl (.inl fun t e => by cases e; rfl), (t2 (t3 px py p0) ph).le (by decide) (by decide)⟩ <| fc ⟨Qi rfl (.inr fun t e => by cases e; rfl), (t2 pl (t3 pX pY p0)).le (by decide) (by decide)⟩ <|
  fc ⟨Qi rfl (.inl fun t e => (nomatch e)), (t2 ps ph).le (by decide) (by decide)⟩ fn
theorem rzB {b : B4} (h : (Sh b.x ∧ Sh b.y) ∧ (Sh b.X ∧ Sh b.Y)) : Rz 2 7705 (bD b) := (Pl.tup (Pls.cons (pSp h.1.1 h.1.2) (Pls.cons (pSp h.2.1 h.2.2) Pls.nil))).rz.le (by decide) (by decide)
theorem Pn {bs : List B4} (hs : Wo bs) {l : List B4} (hl : l.length ≤ 6) (hm : ∀ b ∈ l, b ∈ bs) : Rzs 2 46242 (l.map bD) := Rzs.all (n := 7705) (m := 6) (by rw [List.length_map]; exact hl) fun d hd => by
 obtain ⟨b, hb, rfl⟩ := List.mem_map.mp hd
 exact rzB (hs.2.2 b (hm b hb)).2
theorem Mj {bs : List B4} {i : Int} (h0 : 0 ≤ i) (h1 : i < bs.length) : ∃ b, b ∈ bs ∧ bs[i.toNat]? = some b ∧ L2.atI (bs.map bD) i = some (bD b) := by
 have hl : i.toNat < bs.length := by omega
 refine ⟨bs[i.toNat], List.getElem_mem hl, List.getElem?_eq_getElem hl, ?_⟩
 have q : L2.atI (bs.map bD) ((i.toNat : Nat) : Int) = some (bD bs[i.toNat]) := Jx (by simp [hl])
 rw [show ((i.toNat : Nat) : Int) = i by omega] at q
 exact q
theorem CF {ds : List PyData} {k : Nat} (h : 0 < k) : DL.cutD ds (some (-(k : Int))) none = ds.drop (ds.length - k) := by
 unfold DL.cutD
 rw [HT.Kp]
 have e : HT.sIx ds.length 0 (some (-(k : Int))) = ds.length - k := by
  show (if -(k : Int) < 0 then (-(k : Int) + (ds.length : Int)).toNat else _) = _
  rw [if_pos (by omega)]
  omega
 rw [e, List.take_of_length_le (by rw [List.length_drop]; omega)]
theorem Sr {bs : List B4} (hs : Wo bs) {i : Nat} {d : PyData} (hb : BG d) (hr : Rz 5 60000 d) : Wr (.tuple ((bs.map bD).take i ++ d :: (bs.map bD).drop (i + 1))) := by
 refine ⟨Q2 (c := d) rfl (List.mem_append_right _ List.mem_cons_self) hb, ?_⟩
 have l1 := Pn hs (l := bs.take i) (by rw [List.length_take]; have := hs.1.2; omega) fun b hb => List.mem_of_mem_take hb
 have l2 := Pn hs (l := bs.drop (i + 1)) (by rw [List.length_drop]; have := hs.1.2; omega) fun b hb => List.mem_of_mem_drop hb
 rw [List.map_take] at l1
 rw [List.map_drop] at l2
 exact (Rz.tup (Rzs.app (l1.le (by decide) (Nat.le_refl _)) (Rzs.cons hr l2))).le (by decide) (by decide)
theorem Oq {bs : List B4} (hs : Wo bs) {i : Nat} {b c : B4} (hi : bs[i]? = some b) (hc : 1 < ZH b c) (hr : Rz 2 8000 (bD c)) : ∃ l : List B4, l.length ≤ 6 ∧ DL.cutD ((bs.map bD).take (i + 1)) (some (-5)) none = l.map bD ∧ Wr (.tuple (l.map bD ++ [bD c])) := by
 have hlt : i < bs.length := (List.getElem?_eq_some_iff.mp hi).1
 have h6 := hs.1.2
 have e : bs.take (i + 1) = bs.take i ++ [b] := by rw [List.take_succ, hi]; rfl
 have el : (bs.take i).length = i := by rw [List.length_take]; omega
 refine ⟨(bs.take i).drop (i + 1 - 5) ++ [b], ?_, ?_, ?_⟩
 ·rw [List.length_append, List.length_drop, el, List.length_singleton]
  omega
 ·rw [show (-5 : Int) = -((5 : Nat) : Int) by rfl, CF (by decide), ← List.map_take, ← List.map_drop, e, List.length_map, List.length_append, el, List.length_singleton, List.drop_append_of_le_length (by rw [el]; omega)]
 ·have ec : ((bs.take i).drop (i + 1 - 5) ++ [b]).map bD ++ [bD c] = ((bs.take i).drop (i + 1 - 5) ++ b :: c :: []).map bD := by simp
  rw [ec]
  refine ⟨Wc (Xz hc), ?_⟩
  have l1 := Pn hs (l := (bs.take i).drop (i + 1 - 5) ++ [b]) (by rw [List.length_append, List.length_drop, el, List.length_singleton]; omega) fun d hd => by
   rcases List.mem_append.mp hd with hd | hd
   ·exact List.mem_of_mem_take (List.mem_of_mem_drop hd)
   ·rw [List.mem_singleton.mp hd]
    exact List.mem_of_getElem? hi
  rw [← ec]
  exact (Rz.tup (Rzs.app l1 ((Rzs.cons hr Rzs.nil).le (by decide) (Nat.le_refl _)))).le (by decide) (by decide)
theorem Ge {bs : List B4} (h : 1 ≤ bs.length) : ∃ z, z ∈ bs ∧ DL.cutD (bs.map bD) (some (-1)) none = [bD z] ∧ L2.atI (bs.map bD) (-1) = some (bD z) := by
 have hl : bs.length - 1 < bs.length := by omega
 refine ⟨bs[bs.length - 1], List.getElem_mem hl, ?_, ?_⟩
 ·rw [show (-1 : Int) = -((1 : Nat) : Int) by rfl, CF (by decide), List.length_map, ← List.map_drop, List.drop_eq_getElem_cons hl, List.drop_of_length_le (by omega)]
  rfl
 ·have e : L2.ixN (bs.map bD).length (-1) = some (bs.length - 1) := by
   unfold L2.ixN
   rw [if_neg (by decide), if_pos (by rw [List.length_map]; omega), List.length_map]
   congr 1
   omega
  unfold L2.atI
  rw [e]
  simp [hl]
theorem Wy {bs : List B4} (h : 1 ≤ bs.length) : ∃ y, y ∈ bs ∧ DL.cutD (bs.map bD) none (some 1) = [bD y] ∧ L2.atI (bs.map bD) 0 = some (bD y) := by
 cases bs with
 | nil => simp at h
 | cons y l =>
  refine ⟨y, List.mem_cons_self, ?_, Jx (j := 0) rfl⟩
  rw [V3 (by decide)]
  rfl
theorem HY (n : Nat) (x : PyData) : (List.replicate n [x]).flatten = List.replicate n x := by
 induction n with
 | zero => rfl
 | succ n ih => rw [List.replicate_succ, List.flatten_cons, ih]; rfl
theorem LX {n : Nat} (h : n ≤ 12) {x : PyData} (hx : Rz 2 7705 x) : Rzs 2 92484 (List.replicate n x) := Rzs.all (n := 7705) (m := 12) (by rw [List.length_replicate]; exact h) fun d hd => by
 rw [List.eq_of_mem_replicate hd]
 exact hx
theorem GF : Wr (.tuple []) ∧ Wr (.list []) := ⟨⟨JK rfl (.inl rfl), (Pl.tup Pls.nil).rz.le (by decide) (by decide)⟩, ⟨JK rfl (.inl rfl), (Od.lst Pls.nil).rz.le (by decide) (by decide)⟩⟩
theorem LR {n : Nat} (h7 : 7 ≤ n) (h : n ≤ 12) {x : PyData} (hx : Rz 2 7705 x) : Wr (.tuple (List.replicate n x)) ∧ Wr (.list (List.replicate n x)) := by
 refine ⟨⟨JK rfl (.inr (by rw [List.length_replicate]; omega)), (Rz.tup (LX h hx)).le (by decide) (by decide)⟩, ⟨JK rfl (.inr (by rw [List.length_replicate]; omega)), ?_⟩⟩
 have r := LX h hx
 obtain ⟨m, rfl⟩ : ∃ m, n = m + 1 := ⟨n - 1, by omega⟩
 rw [List.replicate_succ] at r ⊢
 exact (Rz.lst r).le (by decide) (by decide)
theorem We : ∀ bs : List B4, BG (.tuple (bs.map bD))
 | [] => J2 rfl (by decide)
 | [_] => J2 rfl (by simp)
 | [_, _] => Qi rfl (.inl fun t e => by cases e; rfl)
 | _ :: _ :: _ :: _ => J2 rfl (by simp)
theorem P6 {bs : List B4} (hs : Wo bs) {y : B4} (hy : y ∈ bs) : ∀ d ∈ [PyData.none, PyData.bool true, PyData.int 0, PyData.str (Str.ofString ""), PyData.str (Str.ofString "box"), PyData.dict [], PyData.dict [(PyData.int 0, PyData.tuple (List.map bD bs))],
  bD y, PyData.tuple [PyData.int y.x, PyData.int y.y], PyData.tuple [PyData.tuple (List.map bD bs)], PyData.list [PyData.tuple (List.map bD bs)], PyData.int 100000000000000000000], Wr d := by
 have sy := (hs.2.2 y hy).2
 have sp := Yd hs
 have nI : ∀ i : Int, N6 (.int i) := fun i t e => (nomatch e)
 exact fc ⟨Qw rfl, ZcQ.rz.le (by decide) (by decide)⟩ <| fc ⟨Qw rfl, (pBl true).rz.le (by decide) (by decide)⟩ <| fc ⟨Qw rfl, (UQ (i := 0) (by decide)).rz.le (by decide) (by decide)⟩ <|
  fc ⟨Qw rfl, (HL "" (n := 10) (by decide +kernel)).rz.le (by decide) (by decide)⟩ <| fc ⟨Qw rfl, (HL "box" (n := 10) (by decide +kernel)).rz.le (by decide) (by decide)⟩ <| fc ⟨Qw rfl, Od.dct.rz.le (by decide) (by decide)⟩ <|
  fc ⟨Qw rfl, (Od.dc1 (a := 3) ((UQ (i := 0) (by decide)).le (by decide) (Nat.le_refl _)) sp).rz.le (by decide) (by decide)⟩ <| fc ⟨Q2 rfl List.mem_cons_self (Qi rfl (.inl (nI _))), (rzB sy).le (by decide) (by decide)⟩ <|
  fc ⟨Q2 rfl List.mem_cons_self (Yo rfl), (pSp sy.1.1 sy.1.2).rz.le (by decide) (by decide)⟩ <| fc ⟨Q2 rfl List.mem_cons_self (We bs), (Rz.tup (Rzs.cons sp.rz Rzs.nil)).le (by decide) (by decide)⟩ <|
  fc ⟨Q2 rfl List.mem_cons_self (We bs), (Rz.lst (Rzs.cons sp.rz Rzs.nil)).le (by decide) (by decide)⟩ <| fc ⟨Qw rfl, (UQ (by decide)).rz.le (by decide) (by decide)⟩ fn
theorem NS {c z : B4} {n : Int} (h2 : 2 ≤ n) (h4 : n ≤ 4) (hc : 1 < ZH c z) (rc : Rz 2 8000 (bD c)) (rz : Rz 2 7705 (bD z)) : Wr (.tuple (DL.cutD [bD c, bD z, bD c, bD z] none (some n))) := by
 rw [V3 (by omega)]
 obtain ⟨m, hm⟩ : ∃ m, n.toNat = m + 2 := ⟨n.toNat - 2, by omega⟩
 rw [hm]
 have e : [bD c, bD z, bD c, bD z].take (m + 2) = (c :: z :: [c, z].take m).map bD := by
  rw [List.map_cons, List.map_cons, List.map_take]
  rfl
 rw [e]
 refine ⟨Wc (Xz (l := []) hc), ?_⟩
 refine (Rz.tup (Rzs.all (k := 2) (n := 8000) (m := 4) ?_ fun d hd => ?_)).le (by decide) (by decide)
 ·rw [List.length_map, List.length_cons, List.length_cons, List.length_take]
  simp
  omega
 ·obtain ⟨b, hb, rfl⟩ := List.mem_map.mp hd
  have : b = c ∨ b = z := by
   rcases List.mem_cons.mp hb with h | h
   ·exact .inl h
   ·rcases List.mem_cons.mp h with h | h
    ·exact .inr h
    ·have := List.mem_of_mem_take h
     simpa using this
  rcases this with rfl | rfl
  ·exact rc
  ·exact rz.le (by decide) (by decide)
noncomputable def Lsd (bs : List B4) (d : PyData) : Prop := Z6 d = some (.tuple (bs.map bD)) ∧ ZJ d = false ∧ Rz 10 500000 d
noncomputable def X9 : DSp := fun xs M Φ => on1 xs fun x => LU x fun bs => Wo bs ∧ ∀ ds M', (∀ d ∈ ds, Lsd bs d) → (∀ a o, M a = some o → M' a = some o) → Φ (.dat (.list ds)) M'
theorem GZ (xs : List DV) (M : Mp) (Φ : DK) : X9 xs M Φ = (on1 xs fun x => LU x fun bs => Wo bs ∧ ∀ ds M', (∀ d ∈ ds, Lsd bs d) → (∀ a o, M a = some o → M' a = some o) → Φ (.dat (.list ds)) M') := propext Iff.rfl
theorem GL {f : PyData → Option PyData} {r b : List PyData} (hr : allM f r = some b) : ∀ {l a : List PyData}, allM f l = some a → allM f (l ++ r) = some (a ++ b)
 | [], a, e => by
  cases e
  exact hr
 | c :: l, a, e => by
  have e' : (f c).bind (fun y => (allM f l).map (y :: ·)) = some a := e
  show (f c).bind (fun y => (allM f (l ++ r)).map (y :: ·)) = _
  cases q : f c with
  | none => rw [q] at e'; cases e'
  | some y =>
   rw [q] at e'
   cases q2 : allM f l with
   | none => rw [Option.bind_some, q2] at e'; cases e'
   | some bs =>
    rw [Option.bind_some, q2] at e'
    cases e'
    rw [Option.bind_some, GL hr q2]
    rfl
theorem YV {bs : List B4} (hs : Wo bs) {d : PyData} {l : List PyData} (e : Z5 d = some l) (h : allM Jn l = some (bs.map bD)) : Z6 d = some (.tuple (bs.map bD)) := by
 unfold Z6 YG
 rw [e, Option.bind_some, h]
 show (if ZJ (.tuple (bs.map bD)) = true then _ else _) = _
 rw [Ko hs]
 rfl
theorem Hk {bs : List B4} {i : Nat} {b : B4} (hi : bs[i]? = some b) : bs = bs.take i ++ b :: bs.drop (i + 1) := by
 obtain ⟨h1, h2⟩ := List.getElem?_eq_some_iff.mp hi
 have e := List.drop_eq_getElem_cons h1
 rw [h2] at e
 rw [← e, List.take_append_drop]
theorem UJ {bs : List B4} (hs : Wo bs) {i : Nat} {b : B4} {e : PyData} (hi : bs[i]? = some b) (he : Jn e = some (bD b)) (hn : Qc e = false) (hr : Rz 5 60000 e) : Lsd bs (.tuple ((bs.map bD).take i ++ e :: (bs.map bD).drop (i + 1))) := by
 refine ⟨YV hs rfl ?_, ?_, ?_⟩
 ·rw [← List.map_take, ← List.map_drop]
  have q : allM Jn (e :: (bs.drop (i + 1)).map bD) = some (bD b :: (bs.drop (i + 1)).map bD) := by
   show (Jn e).bind (fun y => (allM Jn ((bs.drop (i + 1)).map bD)).map (y :: ·)) = _
   rw [he, Yn]
   rfl
  rw [GL q (Yn _)]
  conv => rhs; rw [Hk hi]
  rw [List.map_append, List.map_cons]
 ·have z : ((bs.map bD).take i ++ e :: (bs.map bD).drop (i + 1)).all Qc = false := List.all_eq_false.mpr ⟨e, List.mem_append_right _ List.mem_cons_self, by rw [hn]; decide⟩
  show ((decide _ && decide _) && (List.all _ Qc && _)) = false
  rw [z, Bool.false_and, Bool.and_false]
 ·have l1 := Pn hs (l := bs.take i) (by rw [List.length_take]; have := hs.1.2; omega) fun b hb => List.mem_of_mem_take hb
  have l2 := Pn hs (l := bs.drop (i + 1)) (by rw [List.length_drop]; have := hs.1.2; omega) fun b hb => List.mem_of_mem_drop hb
  rw [List.map_take] at l1
  rw [List.map_drop] at l2
  exact (Rz.tup (Rzs.app (l1.le (by decide) (Nat.le_refl _)) (Rzs.cons hr l2))).le (by decide) (by decide)
noncomputable def lB (b : B4) : PyData := .list [.list [.int b.x, .int b.y], .list [.int b.X, .int b.Y]]
theorem Cg : ∀ bs : List B4, allM Jn (bs.map lB) = some (bs.map bD)
 | [] => rfl
 | b :: bs => by
  show (Jn (lB b)).bind (fun y => (allM Jn (bs.map lB)).map (y :: ·)) = _
  rw [show Jn (lB b) = some (bD b) from rfl, Cg bs]
  rfl
theorem rz2 {x y : Int} (hx : Sh x) (hy : Sh y) : Rz 1 3848 (.list [.int x, .int y]) := (Od.lst (Pls.cons (UQ (i := x) (by unfold Sh at hx; omega)) (Pls.cons (UQ (i := y) (by unfold Sh at hy; omega)) Pls.nil))).rz.le (by decide) (by decide)
theorem Dg {bs : List B4} (hs : Wo bs) : Lsd bs (.list (bs.map bD)) ∧ Lsd bs (.list (bs.map lB)) := by
 have r1 := Pn hs (l := bs) hs.1.2 fun _ h => h
 have r2 : Rzs 2 46242 (bs.map lB) := Rzs.all (n := 7705) (m := 6) (by rw [List.length_map]; exact hs.1.2) fun d hd => by
  obtain ⟨b, hb, rfl⟩ := List.mem_map.mp hd
  have s := (hs.2.2 b hb).2
  exact (Rz.lst (Rzs.cons (rz2 s.1.1 s.1.2) (Rzs.cons (rz2 s.2.1 s.2.2) Rzs.nil))).le (by decide) (by decide)
 refine ⟨⟨YV hs rfl (Yn bs), rfl, ?_⟩, ⟨YV hs rfl (Cg bs), rfl, ?_⟩⟩
 ·cases bs with
  | nil => exact absurd hs.1.1 (by decide)
  | cons y l => exact (Rz.lst r1).le (by decide) (by decide)
 ·cases bs with
  | nil => exact absurd hs.1.1 (by decide)
  | cons y l => exact (Rz.lst r2).le (by decide) (by decide)
theorem NO {bs : List B4} (hs : Wo bs) {i : Nat} {b : B4} (hi : bs[i]? = some b) :
  Lsd bs (.tuple ((bs.map bD).take i ++ .list [.tuple [.int b.x, .int b.y], .tuple [.int b.X, .int b.Y]] :: (bs.map bD).drop (i + 1))) ∧ Lsd bs (.tuple ((bs.map bD).take i ++ .tuple [.list [.int b.x, .int b.y], .tuple [.int b.X, .int b.Y]] :: (bs.map bD).drop (i + 1))) ∧
   Lsd bs (.tuple ((bs.map bD).take i ++ .tuple [.tuple [.int b.x, .int b.y], .list [.int b.X, .int b.Y]] :: (bs.map bD).drop (i + 1))) := by
 have s := (hs.2.2 b (List.mem_of_getElem? hi)).2
 have p1 := (pSp s.1.1 s.1.2).rz
 have p2 := (pSp s.2.1 s.2.2).rz
 refine ⟨UJ hs hi rfl rfl ((Rz.lst (Rzs.cons p1 (Rzs.cons p2 Rzs.nil))).le (by decide) (by decide)), UJ hs hi rfl rfl ((Rz.tup (Rzs.cons (rz2 s.1.1 s.1.2) (Rzs.cons p2 Rzs.nil))).le (by decide) (by decide)), UJ hs hi rfl ?_ ((Rz.tup (Rzs.cons p1 (Rzs.cons (rz2 s.2.1 s.2.2) Rzs.nil))).le (by decide) (by decide))⟩
 show (ZN _ && (false && _)) = false
 rw [Bool.false_and, Bool.and_false]
theorem Ws {a : PyData} (h : ZN a = true) : ∃ l, a = .tuple l := by
 cases a with
 | tuple l => exact ⟨l, rfl⟩
 | _ => cases h
theorem Dy {c : PyData} (h : Qc c = true) : Jn c = some c := by
 cases c with
 | tuple l =>
  cases l with
  | nil => cases h
  | cons a l =>
   cases l with
   | nil => cases h
   | cons b l =>
    cases l with
    | cons _ _ => cases h
    | nil =>
     have h' : (ZN a && (ZN b && okB (toB (.tuple [a, b])))) = true := h
     rw [Bool.and_eq_true, Bool.and_eq_true] at h'
     obtain ⟨l1, rfl⟩ := Ws h'.1
     obtain ⟨l2, rfl⟩ := Ws h'.2.1
     rfl
 | _ => cases h
theorem KZ : ∀ {l : List PyData}, l.all Qc = true → allM Jn l = some l
 | [], _ => rfl
 | c :: l, h => by
  rw [List.all_cons, Bool.and_eq_true] at h
  show (Jn c).bind (fun y => (allM Jn l).map (y :: ·)) = _
  rw [Dy h.1, KZ h.2]
  rfl
theorem TR {d : PyData} (h : Z6 d = none) : ZJ d = false := by
 cases q : ZJ d with
 | false => rfl
 | true =>
  exfalso
  cases d with
  | tuple l =>
   have q' : ((decide (1 ≤ l.length) && decide (l.length ≤ 6)) && (l.all Qc && chB (l.map toB))) = true := q
   rw [Bool.and_eq_true, Bool.and_eq_true, Bool.and_eq_true] at q'
   have e : Z6 (.tuple l) = some (.tuple l) := by
    unfold Z6 YG
    rw [show Z5 (.tuple l) = some l from rfl, Option.bind_some, KZ q'.2.1]
    show (if ZJ (.tuple l) = true then _ else _) = _
    rw [q]
    rfl
   rw [e] at h
   cases h
  | _ => cases q
theorem O2 (b : B4) : (bD b).canLay0 = true := by
 unfold bD
 simp [PyData.canLay0, PyData.canLayAll0]
theorem Ww : ∀ bs : List B4, PyData.canLayAll0 (bs.map bD) = true
 | [] => by simp [PyData.canLayAll0]
 | b :: bs => by
  rw [List.map_cons, PyData.canLayAll0, O2, Ww bs]
  rfl
theorem HE {bs : List B4} (h : Wo bs) : Oc (.tuple (bs.map bD)) (.tuple (bs.map bD)) = true ∧ PyData.eqv (.tuple (bs.map bD)) (.tuple (bs.map bD)) = true := by
 have p := Yd h
 have c : (PyData.tuple (bs.map bD)).canLay0 = true := by
  rw [PyData.canLay0]
  exact Ww bs
 refine ⟨?_, PySem.SeqAt.eqv_refl _ c⟩
 unfold Oc
 rw [c, Bool.and_self, Bool.true_and, Nat.min_self]
 exact Nat.ble_eq_true_of_le (by have := p.dp; omega)
theorem Pen.keep {M M' : Mp} {p : Addr} (h : Pen M p) (k : ∀ a o, M a = some o → M' a = some o) : Pen M' p := by
 obtain ⟨o, h1, h2⟩ := h
 exact ⟨o, h1, k p o h2⟩
local macro_rules | `(tactic| walk_at "rk") => `(tactic| try simp (config := { maxSteps := 10000000 }) only [↓Fw, ↓Hc, ↓Lk, ↓EE, ↓FF, ↓LF, ↓FZ, ↓Hd, ↓D9, ↓C9, ↓NI, ↓OL, ↓Nf, ↓Pa, ↓OI, ↓Hi, ↓HK, ↓EG, ↓FQ, ↓Hy, ↓Hh, ↓Hr, ↓Lh, ↓Lu, ↓EW, ↓EJ, ↓HZ, ↓HJ, ↓Ll, ↓He, ↓FI, ↓Cr, ↓Ek, ↓Ej, ↓RJ, ↓ZeH, ↓Zco, ↓Zbp, ↓ZeM, ↓La, ↓S2, ↓Zch, ↓Zaj, ↓Oh, ↓Zap, ↓NN, ↓Zby, ↓Ts, ↓ZcM, ↓Rf, ↓Zbz, ↓HC, ↓Ft, ↓BP, ↓Zac, ↓Ow, ↓SQ, ↓RQ, ↓Oo, ↓Si, ↓Lg, ↓EU, ↓Lb, ↓Ln, ↓HR, ↓FC, ↓FT, ↓HX, ↓Sv, ↓Zcs, ↓MK, ↓Fi, ↓Hn, ↓OB, ↓Sf, ↓Bc, ↓E8, ↓GS, ↓Fv, ↓Lr, ↓FE, ↓PQ, ↓PY, ↓O6, ↓O9, ↓CV, ↓Ob, ↓PJ, ↓Pc, ↓RB, ↓EC, ↓Pg, ↓MM, ↓Py, ↓MU, ↓SE, ↓JB, ↓Bu, ↓W2, ↓HB, ↓Fz, ↓OW, ↓Nb, ↓TB, ↓Co, ↓Nl, ↓N7, ↓HU, ↓Lw, ↓OT, ↓Hb, ↓Ct, ↓CY, ↓EL, ↓ET, ↓CO, ↓Zbh, ↓P5, ↓T4, ↓NG, ↓Nt, ↓Hf, ↓Fs, ↓NQ, ↓SV, ↓Bz, ↓EO, ↓FL, ↓Rb, ↓Cc, ↓OR, ↓MX, ↓PX, ↓CA, ↓Th, ↓Fo, ↓Fl, ↓Lv, ↓EY, ↓Te, ↓HA, ↓TV, ↓D8, ↓P8, ↓HM, ↓DZ, ↓Oe, ↓Fn, ↓Nq, ↓OF, ↓O0, ↓Ho, ↓HW, ↓N1, ↓Zah, ↓HG, ↓Ta, ↓Ht, ↓N9, ↓Dq, ↓Bi, B0, CP, EH, Li, Hm, WM, JU, CM, SM, XR, RP, LW, Ms, MB, TK, isNone_none, Us, GY, G1, UO, K7, Ur,
 Option.bind_some, Option.bind_none, Option.join_some, Option.join_none, Option.getD_some, Option.map_some, Option.map_none, List.getElem?_cons_zero, List.getElem?_cons_succ, List.set_cons_zero, List.set_cons_succ, List.map_cons, List.map_nil, List.length_cons, List.length_nil, List.replicate, List.cons_append, List.nil_append, List.any_cons, List.any_nil,
 Qe, CQ, ↓reduceIte, Bool.not_true, Bool.not_false, Bool.or_false, Bool.or_true, Bool.true_or, Bool.false_or, Bool.and_true, Bool.and_false, Bool.true_and, Bool.false_and, Bool.bne_true, Bool.bne_false, Bool.false_eq_true, eq_self, true_and, and_true, SN, RA, Sk, exists_eq_left', exists_eq_left, Option.some.injEq, Nat.reduceAdd, Nat.reduceSub, Nat.zero_add, Nat.reduceLT, Nat.reduceLeDiff, Int.reduceToNat, Int.reducePow, Int.reduceSub, Int.reduceMul, Int.reduceAdd, Int.reduceNeg,
 Int.reduceLT, Int.reduceLE, Int.reduceEq, Int.zero_add, Int.cast_ofNat_Int, decide_true, decide_false, sizeLine_eq, NA, Lo, Sx, P9, ZcE, Zb1, Zb9, Za1, ZbV, Zbd, UG, WO, Bl, G9, WQ, Wl, UN, Wt, KH, WU, UB, WB, X3, K4, XO, Kl, K5, Wa, Kr, Y7, Kn, WI, Wj, UY, Uv, KG, Xy, Wk, Uz, UM, G2, G7, Ub, K1, Uq, K6, KP, UL, WS, Kz, Kj, Wb, ↓Vj, ↓Fc, ↓Fp, ↓E7, NZ, N3, ↓Zbc, ↓T8, ↓PR, ↓RI, ↓To, ↓Cm, ↓ZaY, ↓N2, ↓Zcz, ↓Tr, ↓Ff, ↓Oz, ↓ML, ↓UH, ↓C7, ↓RK, ↓OU, ↓Fm, ↓EV, ↓OD, ↓RW, ↓Es, ↓Ha, ↓OZ, ↓HN, ↓Cq, ↓Nd, ↓Nk, ↓Lm, ↓Pe, ↓O4, ↓DJ, ↓FV, ↓Dh, ↓Ng, ↓Hu, ↓Hv, ↓Bd, ↓FX, ↓Bt, ↓Pb, ↓Fg, ↓E9, ↓NC, ↓Rr, ↓Fd, ↓HD, Lf, E4, Nm, Np, ↓FG, OE, ↓EB, ↓DU, ↓DH, ↓XM, ↓Ue, ↓De, ↓E2, ↓Ez, ↓HQ, ↓LD, ↓FH, ↓Ov, ↓CD, ↓Dk, ↓Bm, ↓GZ, ↓DB])
theorem Yw (T : Tx K mg) : ZZ P w K mg base CX0 1 T.JF T.JJ ["thing"] (lift K spW) := by
 refine okD T.Z2.F Ut (fun xs M Φ h => by obtain ⟨_, rfl, _⟩ := Zx h; rfl) fun cdv A outer s H E hr => ⟨_, (Zi (Zy (Jh (Zp (Wz (NT _)) rfl T.ZO ZK (Za (Zb 0) (Za (Ba rfl T.Zbu RC) Zc))) (VP (Zaf (Zp (Wz (FU _)) rfl T.ZO ZK (Za (Zb 0) (Za (Ba rfl T.Se MO) Zc)))))))), fun xs M Φ h => ?_⟩
 replace h := Zx h
 obtain ⟨x1, rfl, h⟩ := h
 replace h := Qa h
 obtain ⟨d, rfl, h⟩ := h
 walk_at "rk"
 cases d <;> simpa [ZD, tyN, ZS] using h
theorem UX (T : Tx K mg) : ZZ P w K mg base CX0 2 T.Vy T.VE ["thing"] (lift K ZcK) := by
 have G_is_whole : ZZ P w K mg base CX0 1 T.JF T.JJ ["thing"] (lift K spW) := Yw T
 refine okD T.Qp.F WT (fun xs M Φ h => by obtain ⟨_, rfl, _⟩ := Zx h; rfl) fun cdv A outer s H E hr => ⟨_, (Zi (Zy (Jh (Zg G_is_whole (hr.mono (by first | decide | omega)) rfl T.Z2.m T.Z2.F.kp T.Z2.b Zw (Za (Zb 0) Zc)) (VP (Fy Ui Ui (VM (Kt rfl T.Mh)) (Zb 0) (Kt rfl T.Mh)))))), fun xs M Φ h => ?_⟩
 replace h := Zx h
 obtain ⟨x1, rfl, h⟩ := h
 replace h := Qa h
 obtain ⟨d, rfl, h⟩ := h
 walk_at "rk"
 cases d with
 | int i =>
  walk_at "rk"
  simp only [ZS]
  walk_at "rk"
  refine Zu (fun h1 => ?_) fun h1 => ?_
  ·simpa [Zm, h1] using h
  ·simpa [Zm, h1] using h
 | _ => simpa [ZS, Zm] using h
theorem Y4 (T : Tx K mg) : ZZ P w K mg base CX0 2 T.Jd T.Je ["thing"] (lift K Zcj) := by
 have G_is_whole : ZZ P w K mg base CX0 1 T.JF T.JJ ["thing"] (lift K spW) := Yw T
 refine okD T.QF.F Y3 (fun xs M Φ h => by obtain ⟨_, rfl, _⟩ := Zx h; rfl) fun cdv A outer s H E hr => ⟨_, (Zi (Zy (Jh (Zp (Wz (kit_tuple _)) rfl T.ZO ZK (Za (Zb 0) (Za (Ba rfl T.QX Qv) Zc))) (Jh (U9 (WV hr) (Zp JT rfl T.YA Jw (Za (Zb 0) Zc)) Zd) (Jh (Zg G_is_whole (hr.mono (by first | decide | omega)) rfl T.Z2.m T.Z2.F.kp T.Z2.b Zw (Za (Zk (Zb 0) Zd) Zc)) (VP (Zg G_is_whole (hr.mono (by first | decide | omega)) rfl T.Z2.m T.Z2.F.kp T.Z2.b Zw (Za (Zk (Zb 0) Zd) Zc)))))))), fun xs M Φ h => ?_⟩
 replace h := Zx h
 obtain ⟨x1, rfl, h⟩ := h
 replace h := Qa h
 obtain ⟨d, rfl, h⟩ := h
 cases d with
 | tuple ds =>
  walk_at "rk"
  rw [Zc5]
  refine Zu (fun h1 => ?_) fun h1 => ?_
  ·obtain ⟨a, b, rfl⟩ := WG h1
   walk_at "rk"
   cases q : ZS a with
   | true =>
    walk_at "rk"
    simpa [JS, q] using h
   | false =>
    walk_at "rk"
    simpa [JS, q] using h
  ·rw [(Xg h1).1] at h
   exact h
 | _ =>
  walk_at "rk"
  exact h
theorem GR (T : Tx K mg) : ZZ P w K mg base CX0 3 T.YN T.YS ["thing"] (lift K ZbC) := by
 have G_is_any_spot : ZZ P w K mg base CX0 2 T.Jd T.Je ["thing"] (lift K Zcj) := Y4 T
 have G_is_short : ZZ P w K mg base CX0 2 T.Vy T.VE ["thing"] (lift K ZcK) := UX T
 refine okD T.QL.F Bo (fun xs M Φ h => by obtain ⟨_, rfl, _⟩ := Zx h; rfl) fun cdv A outer s H E hr => ⟨_, (Zi (Zy (Jh (Zg G_is_any_spot (hr.mono (by first | decide | omega)) rfl T.QF.m T.QF.F.kp T.QF.b Zw (Za (Zb 0) Zc)) (Jh (Zg G_is_short (hr.mono (by first | decide | omega)) rfl T.Qp.m T.Qp.F.kp T.Qp.b Zw (Za (Zk (Zb 0) Zd) Zc)) (VP (Zg G_is_short (hr.mono (by first | decide | omega)) rfl T.Qp.m T.Qp.F.kp T.Qp.b Zw (Za (Zk (Zb 0) Zd) Zc))))))), fun xs M Φ h => ?_⟩
 replace h := Zx h
 obtain ⟨x1, rfl, h⟩ := h
 replace h := Qa h
 obtain ⟨d, rfl, h⟩ := h
 walk_at "rk"
 cases q : JS d with
 | false =>
  walk_at "rk"
  rw [U2 q] at h
  exact h
 | true =>
  obtain ⟨x, y, rfl⟩ := Mb q
  walk_at "rk"
  replace h : Φ (.dat (.bool (Zm (.int x) && Zm (.int y)))) M := h
  cases q1 : Zm (.int x) with
  | false =>
   rw [q1] at h
   walk_at "rk"
   exact h
  | true =>
   rw [q1] at h
   walk_at "rk"
   exact h
theorem K2 (T : Tx K mg) : ZZ P w K mg base CX0 1 T.JY T.J3 ["box"] (lift K Ox) := by
 refine okD T.Q9.F Wv (fun xs M Φ h => by obtain ⟨_, rfl, _⟩ := Zx h; rfl) fun cdv A outer s H E hr => ⟨_, (Zi (Zy (Jh (U9 Ui (Zk (Zk (Zb 0) Zd) Zd) (Zk (Zk (Zb 0) Zd) Zd)) (VP (U9 Ui (Zk (Zk (Zb 0) Zd) Zd) (Zk (Zk (Zb 0) Zd) Zd)))))), fun xs M Φ h => ?_⟩
 replace h := Zx h
 obtain ⟨x1, rfl, h⟩ := h
 replace h := YB h
 obtain ⟨b, rfl, h⟩ := h
 walk_at "rk"
 refine Zu (fun h1 => ?_) (fun h1 => ?_)
 ·unfold okB at h
  simpa [h1] using h
 ·unfold okB at h
  simpa [h1] using h
theorem BB (T : Tx K mg) : ZZ P w K mg base CX0 4 T.Ks T.Kc ["thing"] (lift K Zcx) := by
 have G_is_spot : ZZ P w K mg base CX0 3 T.YN T.YS ["thing"] (lift K ZbC) := GR T
 have G_has_spots : ZZ P w K mg base CX0 1 T.JY T.J3 ["box"] (lift K Ox) := K2 T
 refine okD T.V1.F Cn (fun xs M Φ h => by obtain ⟨_, rfl, _⟩ := Zx h; rfl) fun cdv A outer s H E hr => ⟨_, (Zf (Q7 (DW.dt (C0 (Xn (Xo (Zp (Wz (kit_tuple _)) rfl T.ZO ZK (Za (Zb 0) (Za (Ba rfl T.QX Qv) Zc))))) (GJ (Qj (MW hr) (Zp JT rfl T.YA Jw (Za (Zb 0) Zc)) Zd)))) (Zi (Zy JQ)) ZY)
 (Zi (Zy (Jh (Zg G_is_spot (hr.mono (by first | decide | omega)) rfl T.QL.m T.QL.F.kp T.QL.b Zw (Za (Zk (Zb 0) Zd) Zc)) (Jh (Zg G_is_spot (hr.mono (by first | decide | omega)) rfl T.QL.m T.QL.F.kp T.QL.b Zw (Za (Zk (Zb 0) Zd) Zc)) (VP (Zg G_has_spots (hr.mono (by first | decide | omega)) rfl T.Q9.m T.Q9.F.kp T.Q9.b Zw (Za (Zb 0) Zc)))))))), fun xs M Φ h => ?_⟩
 replace h := Zx h
 obtain ⟨x1, rfl, h⟩ := h
 replace h := Qa h
 obtain ⟨d, rfl, h⟩ := h
 cases d with
 | tuple ds =>
  walk_at "hd"
  walk_at "rk"
  rw [Zc5]
  by_cases h1 : ds.length = 2
  ·obtain ⟨a, b, rfl⟩ := WG h1
   replace h : Φ (.dat (.bool (ZN a && (ZN b && okB (toB (.tuple [a, b])))))) M := h
   subst_vars
   walk_at "rk"
   cases q : ZN a with
   | false =>
    rw [q] at h
    walk_at "rk"
    exact h
   | true =>
    rw [q] at h
    walk_at "rk"
    cases q2 : ZN b with
    | false =>
     rw [q2] at h
     walk_at "rk"
     exact h
    | true =>
     rw [q2] at h
     obtain ⟨x, y, rfl, _⟩ := XF q
     obtain ⟨x', y', rfl, _⟩ := XF q2
     walk_at "rk"
     exact h
  ·rw [decide_eq_false h1]
   rw [(Xg h1).2.2] at h
   walk_at "rk"
   exact h
 | _ =>
  walk_at "rk"
  exact h
theorem PH (T : Tx K mg) : ZZ P w K mg base CX0 1 T.MP T.NF ["one", "other", "way"] (lift K Of) := by
 refine okD T.WX.F TU (fun xs M Φ h => by obtain ⟨_, _, _, rfl, _⟩ := YQ h; rfl) fun cdv A outer s H E hr => ⟨_, (Zi (Zy (Zp (Oj rfl) rfl T.Sb LM (Za Zd (Za (Zj QC (Zk (Zk (Zb 1) Zd) (Zb 2)) (Zk (Zk (Zb 0) Zd) (Zb 2))) (Za (Zj QC (Zk (Zk (Zb 0) Zd) (Zb 2)) (Zk (Zk (Zb 1) Zd) (Zb 2))) Zc)))))), fun xs M Φ h => ?_⟩
 replace h := YQ h
 obtain ⟨x1, x2, x3, rfl, h⟩ := h
 replace h := YB h
 obtain ⟨a, rfl, h⟩ := h
 replace h := YB h
 obtain ⟨b, rfl, h⟩ := h
 replace h := ZP h
 obtain ⟨i, rfl, hi, h⟩ := h
 rcases hi with rfl | rfl
 ·walk_at "rk"
  exact h
 ·walk_at "rk"
  exact h
theorem VX (T : Tx K mg) : ZZ P w K mg base CX0 2 T.QN T.QM ["one", "other"] (lift K YM) := by
 have G_gap : ZZ P w K mg base CX0 1 T.MP T.NF ["one", "other", "way"] (lift K Of) := PH T
 refine okD T.Qk.F VW (fun xs M Φ h => by obtain ⟨_, _, rfl, _⟩ := QB h; rfl) fun cdv A outer s H E hr => ⟨_, (Zi (Zy (Zp (Oa rfl) rfl T.Sb LM (Za (Zg G_gap (hr.mono (by first | decide | omega)) rfl T.WX.m T.WX.F.kp T.WX.b Zw (Za (Zb 0) (Za (Zb 1) (Za Zd Zc)))) (Za (Zg G_gap (hr.mono (by first | decide | omega)) rfl T.WX.m T.WX.F.kp T.WX.b Zw (Za (Zb 0) (Za (Zb 1) (Za Zd Zc)))) Zc))))), fun xs M Φ h => ?_⟩
 replace h := QB h
 obtain ⟨x1, x2, rfl, h⟩ := h
 replace h := YB h
 obtain ⟨a, rfl, h⟩ := h
 replace h := YB h
 obtain ⟨b, rfl, h⟩ := h
 walk_at "rk"
 exact ⟨.inl trivial, .inr trivial, h⟩
theorem WW (T : Tx K mg) : ZZ P w K mg base CX0 3 T.VC T.VH ["boxes"] (lift K WY) := by
 have G_steps_between : ZZ P w K mg base CX0 2 T.QN T.QM ["one", "other"] (lift K YM) := VX T
 refine okD T.JD.F Uc (fun xs M Φ h => by obtain ⟨_, rfl, _⟩ := Zx h; rfl) fun cdv A outer s H E hr => ⟨_, (Zi (Zy (Zp (Mc rfl) rfl T.R5 LY (Za (Uk false (QZ (sc := Ze Qo) (XN := ["boxes"]) (N := ["k", "boxes"]) (ix := [none, some 0]) rfl rfl (by decide +kernel)) (Dw rfl T.Vf (Za Zd (Za (Zp JT rfl T.YA Jw (Za (Zb 0) Zc)) Zc))) (fun C ex s H => (ZG 0 (show List.Nodup (["k", "boxes"] : List Str) by decide +kernel))) (fun C ex s H => Vx) (fun C ex s H => (U9 Ui (Zg G_steps_between (hr.mono (by first | decide | omega)) rfl T.Qk.m T.Qk.F.kp T.Qk.b Zw (Za (Zk (Zb 1) (Zj QC (Zb 0) Zd)) (Za (Zk (Zb 1) (Zb 0)) Zc))) Zd)) rfl) Zc)))), fun xs M Φ h => ?_⟩
 replace h := Zx h
 obtain ⟨x1, rfl, h⟩ := h
 replace h := UP h
 obtain ⟨bs, rfl, hl, h⟩ := h
 walk_at "rk"
 rw [List.length_map]
 refine ⟨⟨⟨by decide, by decide⟩, ⟨by omega, by omega⟩⟩, by rw [V0]; omega, fun i acc M' => acc = ((List.range i).map (stB bs)).map PyData.bool ∧ M' = M, ⟨rfl, rfl⟩, ?_, ?_⟩
 ·rintro i d acc M' hd ⟨rfl, rfl⟩
  have hi : i < ((bs.length : Int) - 1).toNat := by have := (List.getElem?_eq_some_iff.mp hd).1; rw [V0] at this; exact this
  rw [Gf hi] at hd
  cases hd
  walk_at "rk"
  have hi' : i + 1 < bs.length := by omega
  have e1 : L2.atI (bs.map bD) (1 + (i : Int) - 1) = some (bD bs[i]) := by
   rw [show 1 + (i : Int) - 1 = (i : Int) by omega]
   exact Jx (by rw [List.getElem?_map, List.getElem?_eq_getElem (by omega)]; rfl)
  have e2 : L2.atI (bs.map bD) (1 + (i : Int)) = some (bD bs[i + 1]) := by
   rw [show 1 + (i : Int) = ((i + 1 : Nat) : Int) by omega]
   exact Jx (by rw [List.getElem?_map, List.getElem?_eq_getElem (by omega)]; rfl)
  refine Qz e1 (Qz e2 ?_)
  walk_at "rk"
  rw [List.range_succ, List.map_append, List.map_append]
  unfold stB
  simp [List.getElem?_eq_getElem, hi', show i < bs.length by omega]
 ·rintro acc M' ⟨rfl, rfl⟩
  refine ⟨_, rfl, ?_⟩
  rw [V0, List.all_map, show ((bs.length : Int) - 1).toNat = bs.length - 1 by omega]
  rw [Dx] at h
  exact h
theorem YD (T : Tx K mg) : ZZ P w K mg base CX0 5 T.JI T.JE ["thing"] (lift K XJ) := by
 have G_is_chain : ZZ P w K mg base CX0 3 T.VC T.VH ["boxes"] (lift K WY) := WW T
 have G_is_box : ZZ P w K mg base CX0 4 T.Ks T.Kc ["thing"] (lift K Zcx) := BB T
 refine okD T.Zz.F UD (fun xs M Φ h => by obtain ⟨_, rfl, _⟩ := Zx h; rfl) fun cdv A outer s H E hr => ⟨_, (Zf (Q7 (DW.dt (C0 (Xn (Xo (Zp (Wz (kit_tuple _)) rfl T.ZO ZK (Za (Zb 0) (Za (Ba rfl T.QX Qv) Zc))))) (GJ (Xn (Lc Ui Ui Zd (Zp JT rfl T.YA Jw (Za (Zb 0) Zc)) (Kt rfl T.KN)))))) (Zi (Zy JQ)) ZY)
 (Zi (Zy (Jh (Zp (Mc rfl) rfl T.R5 LY (Za (Uk false (QZ (sc := Ze Qm) (XN := ["thing"]) (N := ["box"]) (ix := [none]) rfl rfl (by decide +kernel)) (Mm (Zb 0)) (fun C ex s H => (ZG 0 (show List.Nodup (["box"] : List Str) by decide +kernel))) (fun C ex s H => Vx) (fun C ex s H => (Zg G_is_box (hr.mono (by first | decide | omega)) rfl T.V1.m T.V1.F.kp T.V1.b Zw (Za (Zb 0) Zc))) rfl) Zc)) (VP (Zg G_is_chain (hr.mono (by first | decide | omega)) rfl T.JD.m T.JD.F.kp T.JD.b Zw (Za (Zb 0) Zc))))))), fun xs M Φ h => ?_⟩
 replace h := Zx h
 obtain ⟨x1, rfl, h⟩ := h
 replace h := Qa h
 obtain ⟨d, rfl, h⟩ := h
 cases d with
 | tuple ds =>
  walk_at "hd"
  walk_at "rk"
  refine Zu (fun h1 => KU (fun h2 => ?_) fun h2 => ?_) fun h1 => ?_
  ·rw [YE (.inr h2)] at h
   exact h
  ·have e : ZJ (.tuple ds) = (ds.all Qc && chB (ds.map toB)) := by
    show ((decide (1 ≤ ds.length) && decide (ds.length ≤ 6)) && _) = _
    rw [decide_eq_true (show 1 ≤ ds.length by omega), decide_eq_true (show ds.length ≤ 6 by omega)]
    rfl
   rw [e] at h
   subst_vars
   walk_at "rk"
   refine ⟨by omega, fun i acc M' => acc = ((ds.take i).map Qc).map PyData.bool ∧ M' = M, ⟨rfl, rfl⟩, ?_, ?_⟩
   ·rintro i d acc M' hd ⟨rfl, rfl⟩
    walk_at "rk"
    rw [← take_snoc _ hd, List.map_append]
    rfl
   ·rintro acc M' ⟨rfl, rfl⟩
    refine ⟨_, rfl, ?_⟩
    rw [List.take_length, List.all_map]
    show if ds.all Qc = true then _ else _
    cases q : ds.all Qc with
    | false =>
     rw [q] at h
     walk_at "rk"
     exact h
    | true =>
     rw [q] at h
     obtain ⟨bs, rfl⟩ := GH q
     rw [Vz] at h
     walk_at "rk"
     rw [List.length_map] at h2
     exact ⟨by omega, h⟩
  ·rw [YE (.inl h1)] at h
   exact h
 | _ =>
  walk_at "rk"
  exact h
theorem Yp (T : Tx K mg) : ZZ P w K mg base (CX1 P w) 1 T.JH T.JC ["thing"] (J9 K (VZ T)) := by
 refine okX T.Z0.F Uj (fun xs M Φ Ξ h => by obtain ⟨_, rfl, _⟩ := Zx h; rfl) fun cdv A outer s H E Ξ hr => ⟨_, (Zf (Q7 (Xn (Xo (Ny rfl T.ZO ZK rfl T.YH JZ rfl T.QX Qv (Zb 0)))) (Zi (Wu T.YU T.K0 PySem.F.excBase_ValueError rfl rfl (Za VO Zc))) ZY)
 (Zi (Zy (Zb 0)))), fun xs M Φ h => ?_⟩
 replace h := Zx h
 obtain ⟨x1, rfl, h⟩ := h
 replace h := Qa h
 obtain ⟨d, rfl, h⟩ := h
 cases d with
 | list l =>
  walk_at "rk"
  exact h
 | tuple l =>
  walk_at "rk"
  exact h
 | _ =>
  walk_at "rk"
  exact h
theorem BD (T : Tx K mg) : ZZ P w K mg base (CX1 P w) 2 T.X5 T.Kh ["thing"] (J9 K (CG T)) := by
 have G_parts_of : ZZ P w K mg base (CX1 P w) 1 T.JH T.JC ["thing"] (J9 K (VZ T)) := Yp T
 refine okX T.VY.F CL (fun xs M Φ Ξ h => by obtain ⟨_, rfl, _⟩ := Zx h; rfl) fun cdv A outer s H E Ξ hr => ⟨_, (Zi (Zy (ZU QI rfl T.QX Qv (Za (Gg false ⟨_, _, _, rfl, rfl, rfl⟩ (QZ (sc := Ze Jc) (XN := ["thing"]) (N := ["corner"]) (ix := [none]) rfl rfl (by decide +kernel)) (Tf (V7 G_parts_of (hr.mono (by first | decide | omega)) rfl T.Z0.m T.Z0.F.kp T.Z0.b (Za (Zb 0) Zc))) (fun C ex s H => (ZG 0 (show List.Nodup (["corner"] : List Str) by decide +kernel))) (fun C ex s H => Vx) (fun C ex s H => (ZU QI rfl T.QX Qv (Za (V7 G_parts_of (hr.mono (by first | decide | omega)) rfl T.Z0.m T.Z0.F.kp T.Z0.b (Za (Zb 0) Zc)) Zc))) rfl) Zc)))), fun xs M Φ h => ?_⟩
 replace h := Zx h
 obtain ⟨x1, rfl, h⟩ := h
 replace h := Qa h
 obtain ⟨d, rfl, hl, h⟩ := h
 walk_at "rk"
 cases q : Z5 d with
 | none =>
  have e : Jn d = none := by unfold Jn; rw [q]; rfl
  rw [e] at h
  exact h
 | some l =>
  have e : Jn d = (allM Gv l).map PyData.tuple := by unfold Jn; rw [q]; rfl
  rw [e] at h
  have hl1 := hl.1 l q
  have key : l.length ≤ 16777216 ∧ ∃ J : Nat → List PyData → Mp → Prop, J 0 [] M ∧ (∀ (i : Nat) (d : PyData) (acc : List PyData) (M' : Mp), l[i]? = some d → J i acc M' → oX (Z5 d) (fun _ => onQ (DV.dat d) M' fun ds => J (i + 1) (acc ++ [PyData.tuple ds]) M') (Ξ (Value.ref T.Zs) M')) ∧ ∀ (acc : List PyData) (M' : Mp), J l.length acc M' → Φ (DV.dat (PyData.tuple acc)) M' := by
   refine ⟨by omega, fun i acc M' => allM Gv (l.take i) = some acc ∧ M' = M, ⟨rfl, rfl⟩, ?_, ?_⟩
   ·rintro i c acc M' hc ⟨ha, rfl⟩
    cases q2 : Z5 c with
    | none =>
     rw [Yz (f := Gv) (c := c) (by unfold Gv; rw [q2]; rfl) hc] at h
     exact h
    | some l2 =>
     have hn := YO (f := Gv) (c := c) (y := .tuple l2) (by unfold Gv; rw [q2]; rfl) ha
     rw [← take_one hc] at hn
     rcases Vk q2 with rfl | rfl
     ·exact ⟨hn, rfl⟩
     ·exact ⟨hn, rfl⟩
   ·rintro acc M' ⟨ha, rfl⟩
    rw [List.take_length] at ha
    rw [ha] at h
    exact h
  rcases Vk q with rfl | rfl
  ·exact key
  ·exact key
theorem YF (T : Tx K mg) : ZZ P w K mg base (CX1 P w) 6 T.JM T.JA ["things"] (J9 K (V4 T)) := by
 have G_is_shape : ZZ P w K mg base CX0 5 T.JI T.JE ["thing"] (lift K XJ) := YD T
 have G_box_of : ZZ P w K mg base (CX1 P w) 2 T.X5 T.Kh ["thing"] (J9 K (CG T)) := BD T
 have G_parts_of : ZZ P w K mg base (CX1 P w) 1 T.JH T.JC ["thing"] (J9 K (VZ T)) := Yp T
 refine okX T.Qu.F YZ (fun xs M Φ Ξ h => by obtain ⟨_, rfl, _⟩ := Zx h; rfl) fun cdv A outer s H E Ξ hr => ⟨_, (Zf (ZA 1 YZ.nd (ZU QI rfl T.QX Qv (Za (Gg false ⟨_, _, _, rfl, rfl, rfl⟩ (QZ (sc := Ze Qt) (XN := ["things", "shape"]) (N := ["thing"]) (ix := [none]) rfl rfl (by decide +kernel)) (Tf (V7 G_parts_of (hr.mono (by first | decide | omega)) rfl T.Z0.m T.Z0.F.kp T.Z0.b (Za (Zb 0) Zc))) (fun C ex s H => (ZG 0 (show List.Nodup (["thing"] : List Str) by decide +kernel))) (fun C ex s H => Vx) (fun C ex s H => (V7 G_box_of (hr.mono (by first | decide | omega)) rfl T.VY.m T.VY.F.kp T.VY.b (Za (Zb 0) Zc))) rfl) Zc)))
 (Zf (Q7 (Xn (Xo (Zg G_is_shape (hr.mono (by first | decide | omega)) rfl T.Zz.m T.Zz.F.kp T.Zz.b Zw (Za (Zb 1) Zc)))) (Zi (Wu T.YU T.K0 PySem.F.excBase_ValueError rfl rfl (Za VO Zc))) ZY)
 (Zi (Zy (Zb 1))))), fun xs M Φ h => ?_⟩
 replace h := Zx h
 obtain ⟨x1, rfl, h⟩ := h
 replace h := Qa h
 obtain ⟨d, rfl, hl, h⟩ := h
 walk_at "rk"
 cases q : Z5 d with
 | none =>
  have e : Z6 d = none := by unfold Z6 YG; rw [q]; rfl
  rw [e] at h
  exact h
 | some l =>
  have e : Z6 d = ((allM Jn l).map PyData.tuple).bind fun s => if ZJ s then some s else none := by unfold Z6 YG; rw [q]; rfl
  rw [e] at h
  have hl1 := hl.1 l q
  have key : l.length ≤ 16777216 ∧ ∃ J : Nat → List PyData → Mp → Prop, J 0 [] M ∧ (∀ (i : Nat) (d : PyData) (acc : List PyData) (M' : Mp), l[i]? = some d → J i acc M' → WJ d ∧ oX (Jn d) (fun b => J (i + 1) (acc ++ [b]) M') (Ξ (Value.ref T.Zs) M')) ∧
    ∀ (acc : List PyData) (M' : Mp), J l.length acc M' → if (!ZJ (PyData.tuple acc)) = true then Ξ (Value.ref T.Zs) M' else Φ (DV.dat (PyData.tuple acc)) M' := by
   refine ⟨by omega, fun i acc M' => allM Jn (l.take i) = some acc ∧ M' = M, ⟨rfl, rfl⟩, ?_, ?_⟩
   ·rintro i c acc M' hc ⟨ha, rfl⟩
    refine ⟨hl.2 l q c (List.mem_of_getElem? hc), ?_⟩
    cases q2 : Jn c with
    | none =>
     rw [Yz (f := Jn) (c := c) q2 hc] at h
     exact h
    | some y =>
     have hn := YO (f := Jn) (c := c) (y := y) q2 ha
     rw [← take_one hc] at hn
     exact ⟨hn, rfl⟩
   ·rintro acc M' ⟨ha, rfl⟩
    rw [List.take_length] at ha
    rw [ha] at h
    replace h : oX (if ZJ (PyData.tuple acc) = true then some (PyData.tuple acc) else none) (fun b => Φ (DV.dat b) M') (Ξ (Value.ref T.Zs) M') := h
    cases q3 : ZJ (.tuple acc) with
    | true =>
     rw [q3] at h
     exact h
    | false =>
     rw [q3] at h
     exact h
  rcases Vk q with rfl | rfl
  ·exact key
  ·exact key
theorem Bb (T : Tx K mg) : ZZ P w K mg base CX0 7 T.YW T.Yc ["_law_thing"] (lift K Ph) := by
 have G_shape_of : ZZ P w K mg base (CX1 P w) 6 T.JM T.JA ["things"] (J9 K (V4 T)) := YF T
 refine okD T.Vo.F VA (fun xs M Φ h => by obtain ⟨_, rfl, _⟩ := Zx h; rfl) fun cdv A outer s H E hr => ⟨_, (Zf (ZA 1 VA.nd U7)
 (Zf (NK 1 2 (ok := fun cls => cls = .ref T.Zs) G_shape_of (hr.mono (by first | decide | omega)) rfl T.Qu.m T.Qu.F.kp T.Qu.b (fun E => (Za (Zb 0) Zc)) ⟨_, _, _, rfl, rfl, rfl⟩ rfl T.Ug (fun cls h => ⟨_, h, T.Vb⟩) VA.nd)
 (Zf (Q7 (Xo (LG rfl T.ZO ZK (Zb 1) (QY rfl T.MS (QY rfl T.Lp (QY rfl T.EM (QY rfl T.NP (QY rfl T.UE (QY rfl T.EN (QY rfl T.EX (QY rfl T.Lz (QY rfl T.DM (QY rfl T.Cz RN)))))))))) (by simp))) (Zi (Zy JQ)) ZY)
 (Zi (Zy (Jh (Zp Di rfl T.ZO ZK (Za (Zb 1) (Za (Sl rfl T.YU) Zc))) (VP (Zp Di rfl T.ZO ZK (Za (Zb 1) (Za (Ba rfl T.K3 XA) Zc)))))))))), fun xs M Φ h => ?_⟩
 replace h := Zx h
 obtain ⟨x1, rfl, h⟩ := h
 replace h := Qa h
 obtain ⟨d, rfl, hl, hp, h⟩ := h
 obtain ⟨p, ds, hp⟩ := hp
 walk_at "rk"
 refine ⟨p, ds, hp, fun G => ⟨hl, ?_⟩⟩
 cases q : Z6 d with
 | some b =>
  rw [q] at h
  refine ⟨_, T.q5, ?_⟩
  refine ⟨_, _, rfl, T.q3, h _ fun a o e => ?_⟩
  by_cases z : a = p
  ·subst z
   rw [Qe, ← e, hp]
  ·rw [ZV z]
   exact e
 | none =>
  rw [q] at h
  refine fun a ha hap => ?_
  have hm : ∀ b o, M b = some o → ZF (ZF M p (OO.lst ds)) a (OO.ext (Jl a (Value.ref T.Zs))) b = some o := fun b o e => by
   have ba : b ≠ a := fun z => by rw [ZV hap, ← z, e] at ha; cases ha
   rw [ZV ba]
   by_cases z : b = p
   ·subst z
    rw [Qe, ← e, hp]
   ·rw [ZV z]
    exact e
  exact ⟨_, rfl, T.Yu, _, T.q4, _, rfl, T.Yu, _, _, rfl, T.q1, _, rfl, T.Yu, _, _, rfl, T.q2, h _ hm⟩
theorem Vc (T : Tx K mg) : ZZ P w K mg base CX0 1 T.Vu T.Vm ["_law_pen", "_law_many"] (lift K Vq) := by
 refine okD T.Zh.F J0 (fun xs M Φ h => by obtain ⟨_, _, rfl, _⟩ := QB h; rfl) fun cdv A outer s H E hr => ⟨_, (Zf (Q7 (Qj P4 (Zk (Zb 0) Zd) Zd) (Zf (ZA 6 J0.nd (Zj Jy (Zk (Zb 0) Zd) (Zb 1)))
 (Zf (VQ (Zj Gj (Zk (Zb 0) Zd) (Zb 1)) (BV (Zb 0) Zd))
 (Zi (Zy (Zb 6))))) ZY)
 (Zf (ZA 2 J0.nd (Zk (Zb 0) Zd))
 (Zf (VQ (Zj ZL (Zb 2) Zd) (BV (Zb 0) Zd))
 (Zf (ZA 3 J0.nd Zd)
 (Zf (Q7 (Qj P4 (Zp JT rfl T.YA Jw (Za (Zk (Zb 0) Zd) Zc)) Zd) (Zi (ZA 3 J0.nd (Zk (Zk (Zb 0) Zd) (Zj Jy (Zb 2) (Zp JT rfl T.YA Jw (Za (Zk (Zb 0) Zd) Zc)))))) ZY)
 (Zf (Q7 (DW.dt (Ma (Qj Zae (Zb 2) (Zp JT rfl T.YA Jw (Za (Zk (Zb 0) Zd) Zc))) (C8 (Qj ZbH (Zp B6 rfl T.Ou Cj (Za (Zb 3) Zc)) (Zj Jq Zd Zd))))) (Zf (VQ (Zj Gj (Zp B6 rfl T.Ou Cj (Za (Zb 3) Zc)) (Zb 1)) (BV (Zb 0) Zd))
 (Zi (Zy (Zj Jy (Zp B6 rfl T.Ou Cj (Za (Zb 3) Zc)) (Zb 1))))) ZY)
 (Zf (ZA 4 J0.nd (Zj Jy (Zj Jj (Zj ZL (Zj ZL (Zj Jy (Zb 3) Zd) (Zj Jj Zd (Zb 2))) Zd) Zd) Zd))
 (Zf (ZA 5 J0.nd (Zj Jy (Zj ZL (Zj ZL (Zj Jj (Zb 4) (Zb 4)) (Zj Jj Zd (Zb 4))) (Zj Jj Zd (Zb 2))) Zd))
 (Zi (Zy (Zj Jy (Zj Du (Zj Jy (Zj Jj (Zb 5) (Zj ZL (Zj Jy (Zb 5) Zd) Zd)) Zd) Zd) (Zb 1)))))))))))), fun xs M Φ h => ?_⟩
 replace h := QB h
 obtain ⟨x1, x2, rfl, h⟩ := h
 replace h := Jk h
 obtain ⟨p, rfl, h⟩ := h
 replace h := ZP h
 obtain ⟨m, rfl, ⟨h0, h1⟩, hp, h⟩ := h
 obtain ⟨ns, i, b, hi, hp⟩ := hp.get
 have lg : m.natAbs.log2 < 9000 := Nat.lt_of_lt_of_le (XQ (k := 200) (by omega) (by decide)) (by decide)
 have fin : ∀ (x j c : Int), 0 ≤ j → Φ (.dat (.int (x % m))) (ZF M p (.lst [.list (ns.map PyData.int), .int j, .int c])) := fun x j c hj => h _ _ (Ec x h0).1 (Ec x h0).2 (Fr.ZF ⟨ns, j, c, hj, rfl⟩)
 walk_at "hd"
 walk_at "rk"
 simp only [hp]
 walk_at "rk"
 refine Zu (fun h2 => ?_) fun h2 => ?_
 ·exact ⟨h0, ⟨h0, lg⟩, fin _ _ _ hi⟩
 ·walk_at "hd"
  walk_at "rk"
  simp only [hp]
  walk_at "rk"
  walk_at "hd"
  walk_at "rk"
  simp only [hp]
  walk_at "rk"
  walk_at "hd"
  walk_at "rk"
  walk_at "hd"
  walk_at "rk"
  rw [List.length_map]
  refine Zu (fun hl => ?_) fun hl => ?_
  ·have hm := Ec i hl
   obtain ⟨c, hc⟩ := O5 (ns := ns) hm.1 hm.2
   refine ⟨hl, Qz hc ?_⟩
   walk_at "hd"
   walk_at "rk"
   rw [List.length_map]
   refine Zu (fun h2 => ⟨Ef _ (by decide), Zu (fun h3 => ⟨⟨h0, lg⟩, h0, fin _ _ _ (by omega)⟩) fun h3 => ?_⟩) fun h2 => ?_
   ·walk_at "hd"
    walk_at "rk"
    refine ⟨.inl (by decide), .inr (by decide), ?_⟩
    walk_at "hd"
    walk_at "rk"
    refine ⟨.inl (by omega), .inl (by decide), .inl (by decide), ?_⟩
    subst_vars
    walk_at "rk"
    refine ⟨.inl (by omega), ⟨by decide, by decide⟩, by assumption, ?_⟩
    exact fin _ _ _ (by omega)
   ·walk_at "hd"
    walk_at "rk"
    refine ⟨.inl (by decide), .inr (by decide), ?_⟩
    walk_at "hd"
    walk_at "rk"
    refine ⟨.inl (by omega), .inl (by decide), .inl (by decide), ?_⟩
    subst_vars
    walk_at "rk"
    refine ⟨.inl (by omega), ⟨by decide, by decide⟩, by assumption, ?_⟩
    exact fin _ _ _ (by omega)
  ·walk_at "hd"
   walk_at "rk"
   rw [List.length_map]
   refine Zu (fun h2 => absurd h2 (by omega)) fun h2 => ?_
   walk_at "hd"
   walk_at "rk"
   refine ⟨.inl (by decide), .inr (by decide), ?_⟩
   walk_at "hd"
   walk_at "rk"
   refine ⟨.inl (by omega), .inl (by decide), .inl (by decide), ?_⟩
   subst_vars
   walk_at "rk"
   refine ⟨.inl (by omega), ⟨by decide, by decide⟩, by assumption, ?_⟩
   exact fin _ _ _ (by omega)
theorem NY (T : Tx K mg) : ZZ P w K mg base CX0 2 T.CN T.CT ["_law_pen", "_law_many"] (lift K D3) := by
 have G_take : ZZ P w K mg base CX0 1 T.Vu T.Vm ["_law_pen", "_law_many"] (lift K Vq) := Vc T
 refine okD T.Yq.F X1 (fun xs M Φ h => by obtain ⟨_, _, rfl, _⟩ := QB h; rfl) fun cdv A outer s H E hr => ⟨_, (Zf (Q7 (Qj Zae (Zb 1) (Zj Jq Zd Zd)) (Zi (Zy (Zg G_take (hr.mono (by first | decide | omega)) rfl T.Zh.m T.Zh.F.kp T.Zh.b Zw (Za (Zb 0) (Za (Zb 1) Zc))))) ZY)
 (Zf (ZA 2 X1.nd Zd)
 (Zf (Vh rfl T.Vf (Za (Zj ZL (Zj Du (Zp Nx rfl T.YA Jw (Za (ZU Oy rfl T.ZbG Tn (Za (Zb 1) Zc)) Zc)) Zd) Zd) Zc) (ZG 3 X1.nd) (Zi (ZA 2 X1.nd (Zj ZL (Zj Jj (Zb 2) (Zj Jq Zd Zd)) (Zg G_take (hr.mono (by first | decide | omega)) rfl T.Zh.m T.Zh.F.kp T.Zh.b Zw (Za (Zb 0) (Za (Zj Jq Zd Zd) Zc)))))) PassesOwn.never rfl)
 (Zi (Zy (Zj Jy (Zb 2) (Zb 1))))))), fun xs M Φ h => ?_⟩
 replace h := QB h
 obtain ⟨x1, x2, rfl, h⟩ := h
 replace h := Jk h
 obtain ⟨p, rfl, h⟩ := h
 replace h := ZP h
 obtain ⟨m, rfl, ⟨h0, h1⟩, hp, h⟩ := h
 have lg : m.natAbs.log2 < 1920 := Nat.lt_of_lt_of_le (XQ (k := 200) (by omega) (by decide)) (by decide)
 walk_at "hd"
 walk_at "rk"
 refine ⟨Ef _ (by decide), Zu (fun h2 => ⟨⟨h0, h1⟩, hp, h⟩) fun h2 => ?_⟩
 have hz := int_text_len_1921 lg
 walk_at "hd"
 walk_at "rk"
 walk_at "hd"
 walk_at "rk"
 refine ⟨lg, by omega, ⟨by decide, by decide⟩, ⟨by omega, by omega⟩, fun i Δ M' => ∃ (v : Int) (kk : Option DV), Δ = [some (.own p), some (.dat (.int m)), some (.dat (.int v)), kk] ∧ Fr p M M', ⟨0, none, rfl, Fr.refl hp⟩, ?_, ?_⟩
 ·rintro i Δ M' hi ⟨v, kk, rfl, hf⟩
  walk_at "rk"
  refine ⟨Ef _ (by decide), .inr (by decide), Ef _ (by decide), hf.1, fun r M2 h3 h4 f2 => ?_⟩
  exact ⟨_, _, rfl, hf.trans f2⟩
 ·rintro Δ M' ⟨v, kk, rfl, hf⟩
  subst_vars
  walk_at "rk"
  exact ⟨h0, h _ _ (Ec v h0).1 (Ec v h0).2 hf⟩
theorem FN (T : Tx K mg) : ZZ P w K mg base CX0 2 T.W5 T.U0 ["_law_pen", "_law_most"] (lift K UU) := by
 have G_take : ZZ P w K mg base CX0 1 T.Vu T.Vm ["_law_pen", "_law_many"] (lift K Vq) := Vc T
 refine okD T.XY.F QP (fun xs M Φ h => by obtain ⟨_, _, rfl, _⟩ := QB h; rfl) fun cdv A outer s H E hr => ⟨_, (Zf (ZA 2 QP.nd (Z8 (Za (Zg G_take (hr.mono (by first | decide | omega)) rfl T.Zh.m T.Zh.F.kp T.Zh.b Zw (Za (Zb 0) (Za Zd Zc))) (Za (Zg G_take (hr.mono (by first | decide | omega)) rfl T.Zh.m T.Zh.F.kp T.Zh.b Zw (Za (Zb 0) (Za Zd Zc))) Zc))))
 (Zf (ZA 3 QP.nd (Yt (Za (Zr (Za (ZU QI rfl T.QX Qv (Za (Zb 2) Zc)) (Za (Zr (Za (Zj ZL (Zk (Zb 2) Zd) (Zg G_take (hr.mono (by first | decide | omega)) rfl T.Zh.m T.Zh.F.kp T.Zh.b Zw (Za (Zb 0) (Za Zd Zc)))) (Za (Zj ZL (Zk (Zb 2) Zd) (Zg G_take (hr.mono (by first | decide | omega)) rfl T.Zh.m T.Zh.F.kp T.Zh.b Zw (Za (Zb 0) (Za Zd Zc)))) Zc))) Zc))) Zc)))
 (Zf (Vh rfl T.Vf (Za (Zg G_take (hr.mono (by first | decide | omega)) rfl T.Zh.m T.Zh.F.kp T.Zh.b Zw (Za (Zb 0) (Za (Zb 1) Zc))) Zc) (ZG 4 QP.nd) (Zf (VQ (Zk (Zb 3) (VM Zd)) (YK (n := 2) rfl (Z4 (ZG 6 QP.nd) (Z4 (ZG 7 QP.nd) J6))))
 (Zf (ZA 5 QP.nd (Z8 (Za (Zg G_take (hr.mono (by first | decide | omega)) rfl T.Zh.m T.Zh.F.kp T.Zh.b Zw (Za (Zb 0) (Za Zd Zc))) (Za (Zg G_take (hr.mono (by first | decide | omega)) rfl T.Zh.m T.Zh.F.kp T.Zh.b Zw (Za (Zb 0) (Za Zd Zc))) Zc))))
 (Zf (FY 2 false QP.nd (QZ (sc := Ze J4) (XN := ["_law_pen", "_law_most", "_law_low", "_law_found", "_law_k", "_law_wide_here", "_law_first", "_law_last"]) (N := ["_law_w", "_law_pen", "_law_first", "_law_wide_here", "_law_last"]) (ix := [none, some 0, some 6, some 5, some 7]) rfl rfl (by decide +kernel)) (BH rfl T.Vf (Za Zd Zc)) (fun C ex s H => (ZG 0 (show List.Nodup (["_law_w", "_law_pen", "_law_first", "_law_wide_here", "_law_last"] : List Str) by decide +kernel))) (fun C ex s H => Vx) (fun C ex s H => (Zj ZL (Zj QC (Zj QC (Zk (Zb 2) (Zb 0)) (Zk (Zb 3) (Zb 0))) Zd) (Zg G_take (hr.mono (by first | decide | omega)) rfl T.Zh.m T.Zh.F.kp T.Zh.b Zw (Za (Zb 1) (Za (Zj ZL (Zj ZL (Zj QC (Zk (Zb 4) (Zb 0)) (Zk (Zb 2) (Zb 0))) (Zk (Zb 3) (Zb 0))) Zd) Zc))))) rfl)
 (Zi (Kq (Vt (Zb 3) (Zr (Za (ZU QI rfl T.QX Qv (Za (Zb 2) Zc)) (Za (Zr (Za (Zj ZL (Zk (Zb 2) Zd) (Zk (Zb 5) Zd)) (Za (Zj ZL (Zk (Zb 2) Zd) (Zk (Zb 5) Zd)) Zc))) Zc))))))))) PassesOwn.never rfl)
 (Zi (Zy (L6 (Zb 3))))))), fun xs M Φ h => ?_⟩
 replace h := QB h
 obtain ⟨x1, x2, rfl, h⟩ := h
 replace h := Jk h
 obtain ⟨p, rfl, h⟩ := h
 replace h := ZP h
 obtain ⟨m, rfl, hm, hp, h⟩ := h
 walk_at "hd"
 walk_at "rk"
 refine ⟨hp, fun x1 M1 a1 b1 f1 => ⟨f1.1, fun y1 M2 a2 b2 f2 => ?_⟩⟩
 walk_at "hd"
 walk_at "rk"
 refine ⟨f2.1, fun x2 M3 a3 b3 f3 => ⟨f3.1, fun y2 M4 a4 b4 f4 q hq => ?_⟩⟩
 have F0 := ((f1.trans f2).trans f3).trans f4
 have n1 : q ≠ p := Ne.symm (f4.1.ne hq)
 have q0 : M q = none := F0.fresh hq
 walk_at "hd"
 walk_at "rk"
 refine ⟨⟨by omega, by omega⟩, f4.1.put (Ne.symm n1), fun r M5 a5 b5 f5 => ⟨⟨by omega, by omega⟩, ?_⟩⟩
 refine ⟨fun i Δ M' => ∃ (cs : List B4) (b : B4) (k2 k4 k5 k6 k7 : Option DV), Δ = [some (.own p), some (.dat (.int m)), k2, some (.own q), k4, k5, k6, k7] ∧ cs.length = i ∧ chB (cs ++ [b]) = true ∧ (∀ c ∈ cs ++ [b], Grb i c) ∧ M' q = some (.lst (cs.map bD ++ [bD b])) ∧ Fr p M M',
  ⟨[], ⟨x1, y1, x1 + x2, y1 + y2⟩, _, _, _, _, _, rfl, rfl, rfl, ?_, f5.own Qe n1, (F0.new q0 n1).trans f5⟩, ?_, ?_⟩
 ·intro c hc
  rw [List.mem_singleton.mp hc]
  unfold Grb
  dsimp only
  omega
 ·rintro i Δ M' hi ⟨cs, b, k2, k4, k5, k6, k7, rfl, hl, hch, hcs, hq', hF⟩
  have hb := hcs b (List.mem_append_right _ (List.mem_singleton.mpr rfl))
  unfold Grb at hb
  rw [JB]
  walk_at "hd"
  walk_at "rk"
  simp only [hq']
  walk_at "rk"
  walk_at "hd"
  walk_at "rk"
  refine ⟨hF.1, fun w1 M6 a6 b6 f6 => ⟨f6.1, fun w2 M7 a7 b7 f7 => ?_⟩⟩
  walk_at "hd"
  walk_at "rk"
  refine ⟨⟨by decide, by decide⟩, ⟨by omega, by omega⟩, f7.1, fun u1 M8 a8 b8 f8 => ⟨⟨by omega, by omega⟩, f8.1, fun u2 M9 a9 b9 f9 => ?_⟩⟩
  have F1 := ((f6.trans f7).trans f8).trans f9
  subst_vars
  walk_at "rk"
  simp only [F1.own hq' n1]
  walk_at "rk"
  refine ⟨by rw [List.length_append, List.length_map, List.length_singleton]; omega, cs ++ [b], ⟨b.x - w1 - 1 + u1, b.y - w2 - 1 + u2, b.x - w1 - 1 + u1 + w1, b.y - w2 - 1 + u2 + w2⟩, _, _, _, _, _, rfl, by rw [List.length_append]; rfl, ?_, fun c hc => ?_, ?_, (hF.trans F1).new q0 n1⟩
  ·rw [List.append_assoc]
   show chB (cs ++ [b, _]) = true
   rw [GD, hch, decide_eq_true (Hq (by dsimp only; omega) (by dsimp only; omega) (by dsimp only; omega) (by dsimp only; omega))]
   rfl
  ·rcases List.mem_append.mp hc with hc | hc
   ·have := hcs c hc
    unfold Grb at this ⊢
    omega
   ·rw [List.mem_singleton.mp hc]
    unfold Grb
    dsimp only
    omega
  ·rw [List.map_append]
   rfl
 ·rintro Δ M' ⟨cs, b, k2, k4, k5, k6, k7, rfl, hl, hch, hcs, hq', hF⟩
  subst_vars
  walk_at "rk"
  simp only [hq']
  walk_at "rk"
  rw [show cs.map bD ++ [bD b] = (cs ++ [b]).map bD by rw [List.map_append]; rfl]
  refine h _ _ ⟨by rw [List.length_append, List.length_singleton]; omega, hch, fun c hc => ?_⟩ (hF.gone q0 n1)
  have := hcs c hc
  unfold Grb at this ⊢
  omega
theorem Wi (T : Tx K mg) : ZZ P w K mg base CX0 1 T.JW T.Vd ["_law_boxes_here", "_law_by", "_law_off"] (lift K Va) := by
 refine okG T.Jb.F Qx (fun xs M Φ h => by obtain ⟨_, _, _, rfl, _⟩ := YQ h; rfl) fun cdv A outer s H E hr => ⟨_, (Zf (ZA 3 Qx.nd (Yt Zc))
 (Zf (Ed (Zb 0) (YK (n := 2) rfl (Z4 (ZG 4 Qx.nd) (Z4 (ZG 5 Qx.nd) J6))) (Zf (ZA 6 Qx.nd (Zr (Za (Zj ZL (Zj Jj (Zk (Zb 4) Zd) (Zb 1)) (Zk (Zb 2) Zd)) (Za (Zj ZL (Zj Jj (Zk (Zb 4) Zd) (Zb 1)) (Zk (Zb 2) Zd)) Zc))))
 (Zi (Kq (Vt (Zb 3) (Zr (Za (Zb 6) (Za (Zr (Za (Zj ZL (Zj QC (Zj ZL (Zj Jj (Zk (Zb 5) Zd) (Zb 1)) (Zb 1)) Zd) (Zk (Zb 2) Zd)) (Za (Zj ZL (Zj QC (Zj ZL (Zj Jj (Zk (Zb 5) Zd) (Zb 1)) (Zb 1)) Zd) (Zk (Zb 2) Zd)) Zc))) Zc))))))) PassesOwn.never rfl)
 (Zi (Zy (ZU QI rfl T.QX Qv (Za (Zb 3) Zc)))))), fun xs M Φ h => ?_⟩
 replace h := YQ h
 obtain ⟨x1, x2, x3, rfl, h⟩ := h
 replace h := N8 h
 obtain ⟨bs, rfl, h⟩ := h
 replace h := ZP h
 obtain ⟨f, rfl, h⟩ := h
 replace h := Zak h
 obtain ⟨ox, oy, rfl, hs, h⟩ := h
 walk_at "hd"
 walk_at "rk"
 intro q hq
 walk_at "hd"
 walk_at "rk"
 refine ⟨fun i Δ M' => ∃ k4 k5 k6, Δ = [some (.dat (.list (bs.map bD))), some (.dat (.int f)), some (.dat (.tuple [.int ox, .int oy])), some (.own q), k4, k5, k6] ∧ M' = ZF M q (.lst (((bs.take i).map (Ud f ox oy)).map bD)), ⟨none, none, none, rfl, rfl⟩, ?_, ?_⟩
 ·rintro i d Δ M' hd ⟨k4, k5, k6, rfl, rfl⟩
  obtain ⟨b, eb, rfl⟩ := BK hd
  have hb := hs.2.2 _ (List.mem_of_getElem? eb)
  unfold Grb at hb
  walk_at "rk"
  refine ⟨.inl (by omega), .inl (by omega), .inl (by omega), .inl (by omega), by rw [List.length_map, List.length_map, List.length_take]; have := hs.1.2; omega, _, _, _, rfl, ?_⟩
  rw [← take_snoc (Ud f ox oy) eb, List.map_append]
  rfl
 ·rintro Δ M' ⟨k4, k5, k6, rfl, rfl⟩
  rw [List.length_map, List.take_length]
  subst_vars
  walk_at "rk"
  exact Su hq h
theorem Bw (T : Tx K mg) : ZZ P w K mg base CX0 3 T.Ys T.Y0 ["_law_pen"] (lift K YL) := by
 have G_take : ZZ P w K mg base CX0 1 T.Vu T.Vm ["_law_pen", "_law_many"] (lift K Vq) := Vc T
 have G_wide : ZZ P w K mg base CX0 2 T.CN T.CT ["_law_pen", "_law_many"] (lift K D3) := NY T
 refine okD T.Vp.F JL (fun xs M Φ h => by obtain ⟨_, rfl, _⟩ := Zx h; rfl) fun cdv A outer s H E hr => ⟨_, (Zf (ZA 1 JL.nd (Zk (Z8 (Za Zd (Za Zd (Za Zd (Za Zd (Za Zd (Za (Zj Jq Zd Zd) Zc))))))) (Zg G_take (hr.mono (by first | decide | omega)) rfl T.Zh.m T.Zh.F.kp T.Zh.b Zw (Za (Zb 0) (Za Zd Zc)))))
 (Zf (ZA 2 JL.nd (Zk (Z8 (Za (Zr (Za Zd (Za Zd Zc))) (Za (Zr (Za (Zj QC (Zg G_take (hr.mono (by first | decide | omega)) rfl T.Zh.m T.Zh.F.kp T.Zh.b Zw (Za (Zb 0) (Za Zd Zc))) Zd) (Za (Zj QC (Zg G_take (hr.mono (by first | decide | omega)) rfl T.Zh.m T.Zh.F.kp T.Zh.b Zw (Za (Zb 0) (Za Zd Zc))) Zd) Zc))) Zc))) (Zg G_take (hr.mono (by first | decide | omega)) rfl T.Zh.m T.Zh.F.kp T.Zh.b Zw (Za (Zb 0) (Za Zd Zc)))))
 (Zf (Q7 (Qj (WV hr) (Zb 1) (Zj Jq Zd Zd)) (Zi (ZA 2 JL.nd (Zr (Za (Zg G_wide (hr.mono (by first | decide | omega)) rfl T.Yq.m T.Yq.F.kp T.Yq.b Zw (Za (Zb 0) (Za (Zj Jq Zd Zd) Zc))) (Za (Zj QC Zd (Zg G_wide (hr.mono (by first | decide | omega)) rfl T.Yq.m T.Yq.F.kp T.Yq.b Zw (Za (Zb 0) (Za (Zj Jq Zd Zd) Zc)))) Zc))))) ZY)
 (Zi (Zy (Zr (Za (Zb 1) (Za (Zb 2) Zc)))))))), fun xs M Φ h => ?_⟩
 replace h := Zx h
 obtain ⟨x1, rfl, h⟩ := h
 replace h := Jk h
 obtain ⟨p, rfl, hp, h⟩ := h
 walk_at "hd"
 walk_at "rk"
 refine ⟨Ef _ (by decide), hp, fun r1 M1 a1 b1 f1 => tab (l := [1, 1, 1, 2, 1000, 10000000000]) (fun t => 1 ≤ t ∧ t ≤ 10000000000) a1 (by simp only [List.length_cons, List.length_nil]; omega) (by decide) fun f hf => ?_⟩
 walk_at "hd"
 walk_at "rk"
 refine ⟨f1.1, fun x M2 a2 b2 f2 => ⟨f2.1, fun y M3 a3 b3 f3 => ⟨f3.1, fun r4 M4 a4 b4 f4 => ?_⟩⟩⟩
 have F := ((f1.trans f2).trans f3).trans f4
 have two : ∃ ox oy : Int, (-20 ≤ ox ∧ ox ≤ 20) ∧ (-20 ≤ oy ∧ oy ≤ 20) ∧ ∀ P : PyData → Prop, Km [.tuple [.int 0, .int 0], .tuple [.int (x - 20), .int (y - 20)]] r4 P = P (.tuple [.int ox, .int oy]) := by
  have : r4 = 0 ∨ r4 = 1 := by omega
  rcases this with rfl | rfl
  ·exact ⟨0, 0, by omega, by omega, fun P => rfl⟩
  ·exact ⟨x - 20, y - 20, by omega, by omega, fun P => rfl⟩
 obtain ⟨ox, oy, hx, hy, e⟩ := two
 rw [e]
 clear e
 walk_at "hd"
 walk_at "rk"
 refine ⟨Ef _ (by decide), Zu (fun z => ?_) fun z => ?_⟩
 ·walk_at "rk"
  refine ⟨Ef _ (by decide), f4.1, fun u M5 a5 b5 f5 => ⟨Ef _ (by decide), f5.1, fun v M6 a6 b6 f6 => ?_⟩⟩
  subst_vars
  walk_at "rk"
  exact h _ _ _ _ ⟨by omega, by omega, by omega⟩ ((F.trans f5).trans f6)
 ·subst_vars
  walk_at "rk"
  exact h _ _ _ _ ⟨hf, by omega, by omega⟩ F
theorem X4 (T : Tx K mg) : ZZ P w K mg base CX0 2 T.Jt T.Jp ["_law_pen"] (lift K CJ) := by
 have G_take : ZZ P w K mg base CX0 1 T.Vu T.Vm ["_law_pen", "_law_many"] (lift K Vq) := Vc T
 refine okD T.QT.F Q8 (fun xs M Φ h => by obtain ⟨_, rfl, _⟩ := Zx h; rfl) fun cdv A outer s H E hr => ⟨_, (Zf (ZA 1 Q8.nd (Zj Jq Zd Zd))
 (Zf (ZA 2 Q8.nd (Z8 (Za JQ (Za JQ (Za U7 (Za VO (Za VO (Za (Zb 1) (Za (Zj QC Zd (Zb 1)) (Za (Zj Jj (Zb 1) (Zj Jq Zd Zd)) (Za (Z8 (Za Zd Zc)) (Za (Zr Zc) (Za Xx Zc)))))))))))))
 (Zi (Zy (Zk (Zb 2) (Zg G_take (hr.mono (by first | decide | omega)) rfl T.Zh.m T.Zh.F.kp T.Zh.b Zw (Za (Zb 0) (Za (Zp JT rfl T.YA Jw (Za (Zb 2) Zc)) Zc)))))))), fun xs M Φ h => ?_⟩
 replace h := Zx h
 obtain ⟨x1, rfl, h⟩ := h
 replace h := Jk h
 obtain ⟨p, rfl, hp, h⟩ := h
 walk_at "rk"
 refine ⟨Ef _ (by decide), Ef _ (by decide), by first | exact .inl (by decide) | exact .inr (by decide), hp, fun r M' h0 h1 f => ?_⟩
 refine ZaF OS h0 ?_ OX fun d hd => h d M' hd f
 exact h1
theorem Mq (T : Tx K mg) : ZZ P w K mg base CX0 1 T.EA T.FD ["_law_some", "_law_at", "_law_thing"] (lift K Fx) := by
 refine okD T.VG.F Sa (fun xs M Φ h => by obtain ⟨_, _, _, rfl, _⟩ := YQ h; rfl) fun cdv A outer s H E hr => ⟨_, (Zi (Zy (Zj QS (Zj QS (Z1 (Zb 0) QV (QW (Zb 1))) (Zr (Za (Zb 2) Zc))) (Z1 (Zb 0) (QW (Zj ZL (Zb 1) Zd)) QV)))), fun xs M Φ h => ?_⟩
 replace h := YQ h
 obtain ⟨x1, x2, x3, rfl, h⟩ := h
 replace h := Vr h
 obtain ⟨ds, rfl, h⟩ := h
 replace h := ZP h
 obtain ⟨i, rfl, h⟩ := h
 replace h := Qa h
 obtain ⟨d, rfl, ⟨h0, h1, h6⟩, h⟩ := h
 walk_at "rk"
 rw [V3 h0, HF (by omega) (by omega)]
 refine ⟨by rw [List.length_take]; omega, by rw [List.length_append, List.length_take, List.length_drop]; simp; omega, ?_⟩
 rw [List.append_assoc, show (i + 1).toNat = i.toNat + 1 by omega]
 exact h
theorem G0 (T : Tx K mg) : ZZ P w K mg base CX0 3 T.Ye T.YJ ["_law_pen", "_law_box"] (lift K BW) := by
 have G_odd_number : ZZ P w K mg base CX0 2 T.Jt T.Jp ["_law_pen"] (lift K CJ) := X4 T
 have G_take : ZZ P w K mg base CX0 1 T.Vu T.Vm ["_law_pen", "_law_many"] (lift K Vq) := Vc T
 refine okD T.Vn.F Qs (fun xs M Φ h => by obtain ⟨_, _, rfl, _⟩ := QB h; rfl) fun cdv A outer s H E hr => ⟨_, (Zf (VQ (Zb 1) (YK (n := 2) rfl (Z4 (ZG 4 Qs.nd) (Z4 (ZG 5 Qs.nd) J6))))
 (Zf (ZA 2 Qs.nd (Zg G_odd_number (hr.mono (by first | decide | omega)) rfl T.QT.m T.QT.F.kp T.QT.b Zw (Za (Zb 0) Zc)))
 (Zf (ZA 3 Qs.nd (Yt (Za (Zb 4) (Za (Zr (Za (Zb 4) Zc)) (Za (Zr (Za (Zb 4) (Za (Zb 5) (Za (Zb 5) Zc)))) (Za U7 (Za VO (Za Zd (Za JQ (Za Xx (Za (DY (hu1 hr) (B2 4) (B2 5)) (Za (Zr Zc) (Za (Z8 Zc) (Za (Zr (Za (Zb 4) (Za (Z1 (Zb 5) QV (QW Zd)) Zc))) Zc))))))))))))))
 (Zf (Kq (Vt (Zb 3) (Zr (Za (Zk (Zb 4) Zd) (Za (Zb 5) Zc)))))
 (Zf (ZA 3 Qs.nd (Zj Uo (Zb 3) (Z8 (Za (Zr (Za (Zr (Za (Zb 2) (Za (Zk (Zb 4) Zd) Zc))) (Za (Zb 5) Zc))) (Za (Zr (Za (Zr (Za (Zk (Zb 4) Zd) (Za (Zb 2) Zc))) (Za (Zb 5) Zc))) (Za (Zr (Za (Zb 4) (Za (Zr (Za (Zb 2) (Za (Zk (Zb 5) Zd) Zc))) Zc))) (Za (Zr (Za (Zb 4) (Za (Z8 (Za (Zk (Zb 5) Zd) (Za (Zb 2) Zc))) Zc))) Zc)))))))
 (Zf (ZA 3 Qs.nd (Zj Uo (Zb 3) (Z8 (Za (Zr (Za (Zb 2) (Za (Zb 5) Zc))) (Za (Z8 (Za (Zb 4) (Za (Zb 2) Zc))) (Za (Zr (Za (Zr (Za (Zj ZL (Zk (Zb 5) Zd) Zd) (Za (Zk (Zb 4) Zd) Zc))) (Za (Zb 5) Zc))) (Za (Zr (Za (Zb 4) (Za (Zr (Za (Zk (Zb 5) Zd) (Za (Zj QC (Zk (Zb 4) Zd) Zd) Zc))) Zc))) Zc)))))))
 (Zi (Zy (Zk (Zj Uo (Zb 3) (Z8 (Za (Zr (Za (Zj QS (Zb 4) (Zr (Za Zd Zc))) (Za (Zb 5) Zc))) (Za (Zr (Za (Zb 4) (Za (Zj QS (Zb 5) (Zr (Za Zd Zc))) Zc))) (Za (Zr (Za VO (Za (Zb 5) Zc))) Zc))))) (Zg G_take (hr.mono (by first | decide | omega)) rfl T.Zh.m T.Zh.F.kp T.Zh.b Zw (Za (Zb 0) (Za Zd Zc)))))))))))), fun xs M Φ h => ?_⟩
 replace h := QB h
 obtain ⟨x1, x2, rfl, h⟩ := h
 replace h := Jk h
 obtain ⟨p, rfl, h⟩ := h
 replace h := YB h
 obtain ⟨b, rfl, ⟨⟨hok, hlo, hhi⟩, hp⟩, h⟩ := h
 unfold bD
 walk_at "rk"
 refine ⟨hp, fun d M' hd f q hq => ?_⟩
 have n1 : q ≠ p := Ne.symm (f.1.ne hq)
 refine ⟨f.1.put (Ne.symm n1), fun r M2 h0 h1 f2 => ?_⟩
 have F : Fr p M M2 := (f.new (f.fresh hq) n1).trans f2
 refine ZaF (fun d => BG d ∧ Rz 5 60000 d) h0 ?_ (D4 hok hlo hhi hd) fun d hd => h d M2 hd.1 hd.2 F
 exact h1
theorem NM (T : Tx K mg) : ZZ P w K mg base CX0 2 T.D5 T.BA ["_law_pen", "_law_box"] (lift K Ei) := by
 have G_take : ZZ P w K mg base CX0 1 T.Vu T.Vm ["_law_pen", "_law_many"] (lift K Vq) := Vc T
 refine okD T.Yk.F J7 (fun xs M Φ h => by obtain ⟨_, _, rfl, _⟩ := QB h; rfl) fun cdv A outer s H E hr => ⟨_, (Zf (VQ (Zb 1) (YK (n := 2) rfl (Z4 (ZG 5 J7.nd) (Z4 (ZG 6 J7.nd) J6))))
 (Zf (ZA 2 J7.nd (Zj ZL Zd (Zk (Z8 (Za Zd (Za Zd (Za (Zg G_take (hr.mono (by first | decide | omega)) rfl T.Zh.m T.Zh.F.kp T.Zh.b Zw (Za (Zb 0) (Za Zd Zc))) Zc)))) (Zg G_take (hr.mono (by first | decide | omega)) rfl T.Zh.m T.Zh.F.kp T.Zh.b Zw (Za (Zb 0) (Za Zd Zc))))))
 (Zf (ZA 3 J7.nd (Zk (Z8 (Za (Zj ZL (Zk (Zb 6) Zd) (Zb 2)) (Za (Zj QC (Zk (Zb 5) Zd) (Zb 2)) (Za (Zk (Zb 5) Zd) (Za (Zj ZL (Zk (Zb 6) Zd) (Zb 2)) Zc))))) (Zg G_take (hr.mono (by first | decide | omega)) rfl T.Zh.m T.Zh.F.kp T.Zh.b Zw (Za (Zb 0) (Za Zd Zc)))))
 (Zf (ZA 4 J7.nd (Zk (Z8 (Za (Zj ZL (Zk (Zb 6) Zd) (Zb 2)) (Za (Zj QC (Zk (Zb 5) Zd) (Zb 2)) Zc))) (Zg G_take (hr.mono (by first | decide | omega)) rfl T.Zh.m T.Zh.F.kp T.Zh.b Zw (Za (Zb 0) (Za Zd Zc)))))
 (Zf (Q7 (DW.dt (Ma (Qj (MW hr) (Zb 3) (Zk (Zb 5) Zd)) (C8 (Qj (WV hr) (Zg G_take (hr.mono (by first | decide | omega)) rfl T.Zh.m T.Zh.F.kp T.Zh.b Zw (Za (Zb 0) (Za Zd Zc))) Zd)))) (Zi (ZA 4 J7.nd (Zj ZL (Zk (Zb 5) Zd) (Zk (Z8 (Za Zd (Za Zd (Za (VM Zd) Zc)))) (Zg G_take (hr.mono (by first | decide | omega)) rfl T.Zh.m T.Zh.F.kp T.Zh.b Zw (Za (Zb 0) (Za Zd Zc))))))) ZY)
 (Zi (Zy (Zr (Za (Zr (Za (Zb 3) (Za (Zb 4) Zc))) (Za (Zr (Za (Zb 3) (Za (Zb 4) Zc))) Zc)))))))))), fun xs M Φ h => ?_⟩
 replace h := QB h
 obtain ⟨x1, x2, rfl, h⟩ := h
 replace h := Jk h
 obtain ⟨p, rfl, h⟩ := h
 replace h := YB h
 obtain ⟨b, rfl, ⟨⟨hok, hlo, hhi⟩, hp⟩, h⟩ := h
 have ok2 : b.x ≤ b.X ∧ b.y ≤ b.Y := by unfold okB at hok; simpa using hok
 have fin : ∀ (x y : Int) (M' : Mp), Fr p M M' → (b.X + 2 ≤ x ∨ x ≤ b.x - 2 ∨ b.Y + 2 ≤ y ∨ y ≤ b.y - 2) → (-(10 ^ 20) ≤ x ∧ x ≤ 10 ^ 20) → (-(10 ^ 20) ≤ y ∧ y ≤ 10 ^ 20) → Φ (.dat (.tuple [.tuple [.int x, .int y], .tuple [.int x, .int y]])) M' := fun x y M' f hxy hx hy => by
  refine h ⟨x, y, x, y⟩ M' ?_ ?_ ?_ f
  ·unfold ZH btw gp
   dsimp only
   omega
  ·unfold ZH btw gp
   dsimp only
   omega
  ·have pI : Pl 0 1921 (.int x) := UQ (by omega)
   have pJ : Pl 0 1921 (.int y) := UQ (by omega)
   have c := Pl.tup (Pls.cons pI (Pls.cons pJ Pls.nil))
   exact (Pl.tup (Pls.cons c (Pls.cons c Pls.nil))).rz.le (by decide) (by decide)
 unfold Sh at hlo hhi
 unfold bD
 walk_at "rk"
 refine ⟨hp, fun g M1 g0 g1 f1 => ⟨f1.1, fun r2 M2 a2 b2 f2 => ?_⟩⟩
 refine tab (l := [0, 0, g]) (fun j => 0 ≤ j ∧ j < 9) a2 b2 (by simp; omega) fun j hj => ?_
 walk_at "rk"
 refine ⟨f2.1, fun r3 M3 a3 b3 f3 => ?_⟩
 refine tab (l := [b.X + (2 + j), b.x - (2 + j), b.x, b.X + (2 + j)]) (fun x => x = b.X + (2 + j) ∨ x = b.x - (2 + j) ∨ x = b.x) a3 b3 (by simp) fun x hx => ?_
 walk_at "rk"
 refine ⟨f3.1, fun r4 M4 a4 b4 f4 => ?_⟩
 refine tab (l := [b.Y + (2 + j), b.y - (2 + j)]) (fun y => y = b.Y + (2 + j) ∨ y = b.y - (2 + j)) a4 b4 (by simp) fun y hy => ?_
 have F4 := ((f1.trans f2).trans f3).trans f4
 walk_at "rk"
 refine KU (fun hne => ?_) fun he => ?_
 ·refine ⟨f4.1, fun r5 M5 a5 b5 f5 => Zu (fun _ => ⟨f5.1, fun r6 M6 a6 b6 f6 => ?_⟩) fun _ => fin x y M5 (F4.trans f5) (by omega) (by omega) (by omega)⟩
  refine tab (l := [0, 1, -1]) (fun z => -1 ≤ z ∧ z ≤ 1) a6 b6 (by simp) fun z hz => ?_
  walk_at "rk"
  exact fin x (b.y + z) M6 ((F4.trans f5).trans f6) (by omega) (by omega) (by omega)
 ·exact fin x y M4 F4 (by omega) (by omega) (by omega)
theorem LH (T : Tx K mg) : ZZ P w K mg base CX0 4 T.Uy T.UT ["_law_pen", "_law_shape"] (lift K Ul) := by
 have G_take : ZZ P w K mg base CX0 1 T.Vu T.Vm ["_law_pen", "_law_many"] (lift K Vq) := Vc T
 have G_away : ZZ P w K mg base CX0 2 T.D5 T.BA ["_law_pen", "_law_box"] (lift K Ei) := NM T
 have G_put : ZZ P w K mg base CX0 1 T.EA T.FD ["_law_some", "_law_at", "_law_thing"] (lift K Fx) := Mq T
 have G_odd_box : ZZ P w K mg base CX0 3 T.Ye T.YJ ["_law_pen", "_law_box"] (lift K BW) := G0 T
 refine okD T.X7.F Vs (fun xs M Φ h => by obtain ⟨_, _, rfl, _⟩ := QB h; rfl) fun cdv A outer s H E hr => ⟨_, (Zf (ZA 2 Vs.nd (Zg G_take (hr.mono (by first | decide | omega)) rfl T.Zh.m T.Zh.F.kp T.Zh.b Zw (Za (Zb 0) (Za (Zp JT rfl T.YA Jw (Za (Zb 1) Zc)) Zc))))
 (Zf (ZA 3 Vs.nd (Zg G_take (hr.mono (by first | decide | omega)) rfl T.Zh.m T.Zh.F.kp T.Zh.b Zw (Za (Zb 0) (Za Zd Zc))))
 (Zf (Q7 (Qj (WV hr) (Zb 3) Zd) (Zi (Zy (Zg G_put (hr.mono (by first | decide | omega)) rfl T.VG.m T.VG.F.kp T.VG.b Zw (Za (Zb 1) (Za (Zb 2) (Za (Zg G_odd_box (hr.mono (by first | decide | omega)) rfl T.Vn.m T.Vn.F.kp T.Vn.b Zw (Za (Zb 0) (Za (Zk (Zb 1) (Zb 2)) Zc))) Zc)))))) ZY)
 (Zf (Q7 (Qj (WV hr) (Zb 3) Zd) (Zi (Zy (Zj QS (Z1 (Z1 (Zb 1) QV (QW (Zj ZL (Zb 2) Zd))) (QW (VM Zd)) QV) (Zr (Za (Zg G_away (hr.mono (by first | decide | omega)) rfl T.Yk.m T.Yk.F.kp T.Yk.b Zw (Za (Zb 0) (Za (Zk (Zb 1) (Zb 2)) Zc))) Zc))))) ZY)
 (Zf (Q7 (Qj (WV hr) (Zb 3) Zd) (Zi (Zy (Zk (Z8 (Za (Zr Zc) (Za (Z8 Zc) (Za (Zj O1 (Z1 (Zb 1) (QW (VM Zd)) QV) Zd) (Za (Zj Zan (ZU Ee rfl T.YH JZ (Za (Z1 (Zb 1) QV (QW Zd)) Zc)) (Zj ZL Zd (Zb 2))) Zc))))) (Zg G_take (hr.mono (by first | decide | omega)) rfl T.Zh.m T.Zh.F.kp T.Zh.b Zw (Za (Zb 0) (Za Zd Zc)))))) ZY)
 (Zf (Q7 (Qj (WV hr) (Zb 3) Zd) (Zf (ZA 5 Vs.nd (Z8 (Za U7 (Za JQ (Za Zd (Za VO (Za VO (Za Xx (Za (Fe P0 (B2 1)) (Za (Zk (Zb 1) Zd) (Za (Zk (Zk (Zb 1) Zd) Zd) (Za (Zr (Za (Zb 1) Zc)) (Za (Z8 (Za (Zb 1) Zc)) (Za (Zj Jq Zd Zd) Zc))))))))))))))
 (Zi (Zy (Zk (Zb 5) (Zg G_take (hr.mono (by first | decide | omega)) rfl T.Zh.m T.Zh.F.kp T.Zh.b Zw (Za (Zb 0) (Za Zd Zc))))))) ZY)
 (Zf (ZA 4 Vs.nd (Zg G_away (hr.mono (by first | decide | omega)) rfl T.Yk.m T.Yk.F.kp T.Yk.b Zw (Za (Zb 0) (Za (Zk (Zb 1) (VM Zd)) Zc))))
 (Zi (Zy (Z1 (Zj QS (Zj QS (Zj QS (Zr (Za (Zb 4) Zc)) (Z1 (Zb 1) (QW (VM Zd)) QV)) (Zr (Za (Zb 4) Zc))) (Z1 (Zb 1) (QW (VM Zd)) QV)) QV (QW (Zj ZL (Zj QC (Zj ZL Zd (Zb 3)) Zd) (Zj Jy (Zb 2) Zd))))))))))))), fun xs M Φ h => ?_⟩
 replace h := QB h
 obtain ⟨x1, x2, rfl, h⟩ := h
 replace h := Jk h
 obtain ⟨p, rfl, h⟩ := h
 replace h := UP h
 obtain ⟨bs, rfl, ⟨hs, hp⟩, h⟩ := h
 have hl := hs.1
 walk_at "rk"
 rw [List.length_map]
 refine ⟨⟨by omega, by omega⟩, hp, fun i M1 a0 a1 f1 => ⟨f1.1, fun way M2 w0 w1 f2 => ?_⟩⟩
 have F2 := f1.trans f2
 obtain ⟨b, hb, hi, ei⟩ := Mj a0 a1
 refine Zu (fun _ => ?_) fun _ => Zu (fun _ => ?_) fun _ => Zu (fun _ => ?_) fun _ => Zu (fun _ => ?_) fun _ => ?_
 ·refine Qz ei ?_
  rw [Vj]
  exact ⟨⟨hs.2.2 b hb, f2.1⟩, fun d M3 hbad hrz f3 => ⟨⟨a0, a1, hl.2⟩, h _ M3 (Sr hs hbad hrz) (F2.trans f3)⟩⟩
 ·refine Qz ei ?_
  rw [Vj]
  refine ⟨⟨hs.2.2 b hb, f2.1⟩, fun c M3 h1 h2 hrz f3 => ?_⟩
  obtain ⟨l, l6, el, wr⟩ := Oq hs hi h1 hrz
  rw [V3 (by omega), show (i + 1).toNat = i.toNat + 1 by omega, el, List.length_map]
  exact ⟨by omega, h _ M3 wr (F2.trans f3)⟩
 ·obtain ⟨z, hz, ez, _⟩ := Ge hl.1
  obtain ⟨y, hy, ey, _⟩ := Wy hl.1
  rw [ez, ey]
  walk_at "rk"
  intro q hq
  have n1 : q ≠ p := Ne.symm (f2.1.ne hq)
  refine ⟨⟨by omega, by omega, by omega⟩, f2.1.put (Ne.symm n1), fun r M3 a3 b3 f3 => ?_⟩
  have F3 := (F2.new (F2.fresh hq) n1).trans f3
  rw [HY]
  refine ZaF Wr a3 ?_ ?_ fun d hd => h d M3 hd F3
  ·exact b3
  ·exact fc GF.1 (fc GF.2 (fc (LR (n := 7) (by decide) (by decide) (rzB (hs.2.2 z hz).2)).1 (fc (LR (by omega) (by omega) (rzB (hs.2.2 y hy).2)).2 fn)))
 ·obtain ⟨y, hy, _, ey⟩ := Wy hl.1
  refine Qz ey (Qz ey ?_)
  rw [Ti]
  walk_at "rk"
  refine ⟨Ef _ (by decide), f2.1, fun r M3 a3 b3 f3 => ?_⟩
  refine ZaF Wr a3 ?_ (P6 hs hy) fun d hd => h d M3 hd (F2.trans f3)
  exact b3
 ·obtain ⟨z, hz, ez, ea⟩ := Ge hl.1
  refine Qz ea ?_
  rw [Vj]
  refine ⟨⟨hs.2.2 z hz, f2.1⟩, fun c M3 h1 h2 hrz f3 => ?_⟩
  rw [ez]
  walk_at "rk"
  exact h _ M3 (NS (by omega) (by omega) h2 hrz (rzB (hs.2.2 z hz).2)) (F2.trans f3)
theorem Ce (T : Tx K mg) : ZZ P w K mg base CX0 2 T.XU T.XE ["_law_shape"] (lift K X9) := by
 have G_put : ZZ P w K mg base CX0 1 T.EA T.FD ["_law_some", "_law_at", "_law_thing"] (lift K Fx) := Mq T
 refine okD T.V8.F Q0 (fun xs M Φ h => by obtain ⟨_, rfl, _⟩ := Zx h; rfl) fun cdv A outer s H E hr => ⟨_, (Zf (ZA 1 Q0.nd (Yt (Za (ZU Jr rfl T.YH JZ (Za (Zb 0) Zc)) (Za (Uk false (QZ (sc := Ze Jf) (XN := ["_law_shape", "_law_found", "_law_at", "_law_low", "_law_high"]) (N := ["_law_low", "_law_high"]) (ix := [none, none]) rfl rfl (by decide +kernel)) (Mm (Zb 0)) (fun C ex s H => (YK (n := 2) rfl (Z4 (ZG 0 (show List.Nodup (["_law_low", "_law_high"] : List Str) by decide +kernel)) (Z4 (ZG 1 (show List.Nodup (["_law_low", "_law_high"] : List Str) by decide +kernel)) J6)))) (fun C ex s H => Vx) (fun C ex s H => (Z8 (Za (ZU Jr rfl T.YH JZ (Za (Zb 0) Zc)) (Za (ZU Jr rfl T.YH JZ (Za (Zb 1) Zc)) Zc)))) rfl) Zc))))
 (Zf (Vh rfl T.Vf (Za (Zp JT rfl T.YA Jw (Za (Zb 0) Zc)) Zc) (ZG 2 Q0.nd) (Zf (VQ (Zk (Zb 0) (Zb 2)) (YK (n := 2) rfl (Z4 (ZG 3 Q0.nd) (Z4 (ZG 4 Q0.nd) J6))))
 (Zf (ZA 1 Q0.nd (Zj FK (Zb 1) (Z8 (Za (Zg G_put (hr.mono (by first | decide | omega)) rfl T.VG.m T.VG.F.kp T.VG.b Zw (Za (Zb 0) (Za (Zb 2) (Za (Z8 (Za (Zb 3) (Za (Zb 4) Zc))) Zc)))) (Za (Zg G_put (hr.mono (by first | decide | omega)) rfl T.VG.m T.VG.F.kp T.VG.b Zw (Za (Zb 0) (Za (Zb 2) (Za (Zr (Za (ZU Jr rfl T.YH JZ (Za (Zb 3) Zc)) (Za (Zb 4) Zc))) Zc)))) Zc)))))
 (Zi (Kq (Vt (Zb 1) (Zg G_put (hr.mono (by first | decide | omega)) rfl T.VG.m T.VG.F.kp T.VG.b Zw (Za (Zb 0) (Za (Zb 2) (Za (Zr (Za (Zb 3) (Za (ZU Jr rfl T.YH JZ (Za (Zb 4) Zc)) Zc))) Zc))))))))) PassesOwn.never rfl)
 (Zi (Zy (L6 (Zb 1)))))), fun xs M Φ h => ?_⟩
 replace h := Zx h
 obtain ⟨x1, rfl, h⟩ := h
 replace h := UP h
 obtain ⟨bs, rfl, hs, h⟩ := h
 have hl := hs.1
 walk_at "rk"
 rw [List.length_map]
 refine ⟨by omega, fun i acc M' => acc = (bs.take i).map lB ∧ M' = M, ⟨rfl, rfl⟩, ?_, ?_⟩
 ·rintro i d acc M' hd ⟨rfl, rfl⟩
  obtain ⟨b, eb, rfl⟩ := BK hd
  unfold bD
  walk_at "rk"
  rw [← take_snoc lB eb]
  rfl
 ·rintro acc M' ⟨rfl, rfl⟩ q hq
  rw [List.take_length]
  refine ⟨⟨by omega, by omega⟩, ?_⟩
  refine ⟨fun j Δ M2 => ∃ (q : Addr) (ds : List PyData) (k2 k3 k4 : Option DV), Δ = [some (.dat (.tuple (bs.map bD))), some (.own q), k2, k3, k4] ∧ M2 q = some (.lst ds) ∧ M' q = none ∧ (∀ d ∈ ds, Lsd bs d) ∧ ds.length ≤ 2 + 3 * j ∧ (∀ a o, M' a = some o → M2 a = some o),
   ⟨q, _, none, none, none, rfl, Qe, hq, fc (Dg hs).1 (fc (Dg hs).2 fn), by simp, fun a o e => by rw [ZV fun z => by rw [z, hq] at e; cases e]; exact e⟩, ?_, ?_⟩
  ·rintro j Δ M2 hj ⟨q, ds, k2, k3, k4, rfl, hq2, hq1, hds, hlen, hk⟩
   rw [JB]
   walk_at "rk"
   have hj' : j < bs.length := by omega
   obtain ⟨b, hb, hi, ei⟩ := Mj (bs := bs) (i := (j : Int)) (by omega) (by omega)
   rw [Int.toNat_natCast] at hi
   obtain ⟨g1, g2, g3⟩ := NO hs hi
   refine Qz ei ?_
   rw [S5]
   walk_at "rk"
   rw [List.length_map, Int.toNat_natCast]
   simp only [hq2]
   walk_at "rk"
   refine ⟨⟨by omega, by omega, hl.2⟩, ⟨by omega, by omega, hl.2⟩, by omega, fun q' hq' => ⟨⟨by omega, by omega, hl.2⟩, by rw [List.length_append]; simp; omega, q', _, _, _, _, rfl, Qe, ?_, ?_, ?_, ?_⟩⟩
   ·cases e : M' q' with
    | none => rfl
    | some o => rw [hk _ _ e] at hq'; cases hq'
   ·intro d hd
    rcases List.mem_append.mp hd with hd | hd
    ·rcases List.mem_append.mp hd with hd | hd
     ·exact hds d hd
     ·exact fc g1 (fc g2 fn) d hd
    ·rw [List.mem_singleton.mp hd]
     exact g3
   ·rw [List.length_append, List.length_append]
    simp
    omega
   ·intro a o e
    have e2 := hk a o e
    rw [ZV fun z => by rw [z, hq'] at e2; cases e2]
    exact e2
  ·rintro Δ M2 ⟨q, ds, k2, k3, k4, rfl, hq2, hq1, hds, hlen, hk⟩
   walk_at "rk"
   simp only [hq2]
   walk_at "rk"
   exact h ds _ hds fun a o e => by rw [YI fun z => by rw [z, hq1] at e; cases e]; exact hk a o e
theorem Rw (T : Tx K mg) : ZZ P w K mg base CX0 8 T.Sg T.Rk ["_law_script"] (lift K BZ) := by
 have G_stretch : ZZ P w K mg base CX0 3 T.Ys T.Y0 ["_law_pen"] (lift K YL) := Bw T
 have G_stretched : ZZ P w K mg base CX0 1 T.JW T.Vd ["_law_boxes_here", "_law_by", "_law_off"] (lift K Va) := Wi T
 have G_listed : ZZ P w K mg base CX0 2 T.XU T.XE ["_law_shape"] (lift K X9) := Ce T
 have G_boxes : ZZ P w K mg base CX0 2 T.W5 T.U0 ["_law_pen", "_law_most"] (lift K UU) := FN T
 have G_is_shape : ZZ P w K mg base CX0 5 T.JI T.JE ["thing"] (lift K XJ) := YD T
 have G_wrong : ZZ P w K mg base CX0 4 T.Uy T.UT ["_law_pen", "_law_shape"] (lift K Ul) := LH T
 have G_refused : ZZ P w K mg base CX0 7 T.YW T.Yc ["_law_thing"] (lift K Ph) := Bb T
 have G_shape_of : ZZ P w K mg base (CX1 P w) 6 T.JM T.JA ["things"] (J9 K (V4 T)) := YF T
 refine okD T.o_law.F JR (fun xs M Φ ⟨ns, e, _⟩ => by rw [e]; rfl) fun cdv A outer s H E hr => ⟨_, (Zf (ZA 1 JR.nd (Yt (Za (Zb 0) (Za Zd (Za Zd Zc)))))
 (Zf (Vh rfl T.Vf (Za Zd Zc) (ZG 2 JR.nd) (Zf (VQ (Zg G_stretch (hr.mono (by first | decide | omega)) rfl T.Vp.m T.Vp.F.kp T.Vp.b Zw (Za (Zb 1) Zc)) (YK (n := 2) rfl (Z4 (ZG 6 JR.nd) (Z4 (ZG 7 JR.nd) J6))))
 (Zf (ZA 3 JR.nd (Zg G_stretched (hr.mono (by first | decide | omega)) rfl T.Jb.m T.Jb.F.kp T.Jb.b Zw (Za (Zg G_boxes (hr.mono (by first | decide | omega)) rfl T.XY.m T.XY.F.kp T.XY.b Zw (Za (Zb 1) (Za Zd Zc))) (Za (Zb 6) (Za (Zb 7) Zc)))))
 (Zf (Q7 (Qj Vl (Zg G_is_shape (hr.mono (by first | decide | omega)) rfl T.Zz.m T.Zz.F.kp T.Zz.b Zw (Za (Zb 3) Zc)) JQ) (Zi (Zy JQ)) ZY)
 (Zf (Vh rfl T.Vf (Za Zd Zc) (ZG 4 JR.nd) (Zf (ZA 5 JR.nd (Zg G_wrong (hr.mono (by first | decide | omega)) rfl T.X7.m T.X7.F.kp T.X7.b Zw (Za (Zb 1) (Za (Zb 3) Zc))))
 (Zf (ZA 8 JR.nd (Zp (GG hr) rfl T.L9 BF (Za (Zb 5) Zc)))
 (Zi (Q7 (DW.dt (C0 (Xn (Xo (Zg G_refused (hr.mono (by first | decide | omega)) rfl T.Vo.m T.Vo.F.kp T.Vo.b Zw (Za (Zb 5) Zc)))) (C0 (Qj Vl (Zg G_is_shape (hr.mono (by first | decide | omega)) rfl T.Zz.m T.Zz.F.kp T.Zz.b Zw (Za (Zb 5) Zc)) JQ) (GJ (Qj RE (Zp (GG hr) rfl T.L9 BF (Za (Zb 5) Zc)) (Zb 8)))))) (Zi (Zy JQ)) ZY)))) PassesOwn.never rfl)
 (Zf (Ed (Zg G_listed (hr.mono (by first | decide | omega)) rfl T.V8.m T.V8.F.kp T.V8.b Zw (Za (Zb 3) Zc)) (ZG 5 JR.nd) (Zi (Q7 (DW.dt (C0 (Qj Vl (Zg G_is_shape (hr.mono (by first | decide | omega)) rfl T.Zz.m T.Zz.F.kp T.Zz.b Zw (Za (Zb 5) Zc)) JQ) (GJ (Qj (MW hr) (FW G_shape_of (hr.mono (by first | decide | omega)) rfl T.Qu.m T.Qu.F.kp T.Qu.b (Za (Zb 5) Zc)) (Zb 3))))) (Zi (Zy JQ)) ZY)) PassesOwn.never rfl)
 (Zi (Q7 (Qj Vl (Zg G_is_shape (hr.mono (by first | decide | omega)) rfl T.Zz.m T.Zz.F.kp T.Zz.b Zw (Za (Zb 3) Zc)) JQ) (Zi (Zy JQ)) ZY))))))) PassesOwn.never rfl)
 (Zi (Zy JQ)))), fun xs M Φ ⟨ns, e, hn, h⟩ => ?_⟩
 subst e
 walk_at "hd"
 walk_at "rk"
 intro p hp
 walk_at "hd"
 walk_at "rk"
 refine ⟨⟨by decide, by decide⟩, fun i Δ M' => ∃ k2 k3 k4 k5 k6 k7 k8 : Option DV, Δ = [some (.dat (.list (ns.map PyData.int))), some (.own p), k2, k3, k4, k5, k6, k7, k8] ∧ Pen M' p, ⟨_, _, _, _, _, _, _, rfl, Pen.ZF ⟨ns, 0, 0, Int.le_refl 0, rfl⟩⟩, ?_, ?_⟩
 ·rintro i Δ M1 hi ⟨k2, k3, k4, k5, k6, k7, k8, rfl, hP⟩
  rw [JB]
  walk_at "hd"
  walk_at "rk"
  refine ⟨hP, fun f ox oy M2 hf f2 => ?_⟩
  walk_at "hd"
  walk_at "rk"
  refine ⟨f2.1, fun bs0 M3 hbs f3 => ⟨hbs, ?_⟩⟩
  have hs := Nu hbs hf
  generalize bs0.map (Ud f ox oy) = bs at hs ⊢
  have q := Ko hs
  walk_at "hd"
  walk_at "rk"
  rw [q]
  walk_at "rk"
  walk_at "hd"
  walk_at "rk"
  refine ⟨⟨by decide, by decide⟩, fun i Δ M' => ∃ k4 k5 k8 : Option DV, Δ = [some (.dat (.list (ns.map PyData.int))), some (.own p), _, some (.dat (.tuple (bs.map bD))), k4, k5, _, _, k8] ∧ Pen M' p, ⟨_, _, _, rfl, f3.1⟩, ?_, ?_⟩
  ·rintro j Δ M4 hj ⟨k4, k5, k8, rfl, hP4⟩
   rw [JB]
   walk_at "hd"
   walk_at "rk"
   refine ⟨⟨hs, hP4⟩, fun d M5 hw f5 => ?_⟩
   have hr := hw.2.rep (by decide) (by decide)
   walk_at "hd"
   walk_at "rk"
   refine ⟨hr, ?_⟩
   subst_vars
   walk_at "rk"
   obtain ⟨_, ⟨xs, i1, i2, i3, rfl⟩, g2⟩ := id f5.1
   refine ⟨KW (Nat.le_trans hw.2.z (by decide)), ⟨p, _, g2⟩, fun M6 k6 => ?_⟩
   rw [hw.1, TR hw.1]
   walk_at "rk"
   refine ⟨hr, ?_⟩
   exact ⟨_, _, _, rfl, f5.1.keep k6⟩
  ·rintro Δ M4 ⟨k4, k5, k8, rfl, hP4⟩
   walk_at "hd"
   walk_at "rk"
   refine ⟨hs, fun ds M5 hds k5 => ?_⟩
   refine ⟨fun i Δ M' => ∃ k5 : Option DV, Δ = [some (.dat (.list (ns.map PyData.int))), some (.own p), _, some (.dat (.tuple (bs.map bD))), _, k5, _, _, _] ∧ Pen M' p, ⟨_, rfl, hP4.keep k5⟩, ?_, ?_⟩
   ·rintro j d Δ M6 hd ⟨k5, rfl, hP6⟩
    obtain ⟨g1, g2, g3⟩ := hds d (List.mem_of_getElem? hd)
    obtain ⟨e1, e2⟩ := HE hs
    rw [JB]
    subst_vars
    walk_at "rk"
    rw [g2]
    walk_at "rk"
    refine ⟨KW (Nat.le_trans g3.z (by decide)), ?_⟩
    rw [g1]
    walk_at "rk"
    refine Sj e1 ?_
    rw [e2]
    exact ⟨_, rfl, hP6⟩
   ·rintro Δ M6 ⟨k5, rfl, hP6⟩
    subst_vars
    walk_at "rk"
    rw [q]
    walk_at "rk"
    exact ⟨_, _, _, _, _, _, _, rfl, hP6⟩
 ·rintro Δ M1 ⟨k2, k3, k4, k5, k6, k7, k8, rfl, hP⟩
  subst_vars
  walk_at "rk"
  exact h _
end
theorem JP {α : Type} {l : List α} (h : l.length = 1) : ∃ a0, l = [a0] := by
 match l, h with
 | [a0], _ => exact ⟨a0, rfl⟩
theorem W4 {α : Type} {l : List α} (h : l.length = 2) : ∃ a0 a1, l = [a0, a1] := by
 match l, h with
 | [a0, a1], _ => exact ⟨a0, a1, rfl⟩
theorem OM {α : Type} {l : List α} (h : l.length = 3) : ∃ a0 a1 a2, l = [a0, a1, a2] := by
 match l, h with
 | [a0, a1, a2], _ => exact ⟨a0, a1, a2, rfl⟩
theorem all_mk {l : PySem.W.OpenLaw} {w : World} {K : PySem.W.Frag} {h : Heap} {mg : Str → Option Value} {fa : Addr} (X : K.In h) (G : h.Ns mainGlobals mg) (hfa : mg "law" = some (.ref fa))
  {f0 : Addr} {od0 an0 : Option Addr} {sl0 : Array (Option Value)} {oc0 kV0 dc0 pm0 cd0 ct0 : Value} {f1 : Addr} {od1 an1 : Option Addr} {sl1 : Array (Option Value)} {oc1 kV1 dc1 pm1 cd1 ct1 : Value} {f2 : Addr} {od2 an2 : Option Addr} {sl2 : Array (Option Value)} {oc2 kV2 dc2 pm2 cd2 ct2 : Value} {f3 : Addr} {od3 an3 : Option Addr} {sl3 : Array (Option Value)} {oc3 kV3 dc3 pm3 cd3 ct3 : Value} {f4 : Addr} {od4 an4 : Option Addr} {sl4 : Array (Option Value)} {oc4 kV4 dc4 pm4 cd4 ct4 : Value} {f5 : Addr} {od5 an5 : Option Addr} {sl5 : Array (Option Value)} {oc5 kV5 dc5 pm5 cd5 ct5 : Value} {f6 : Addr} {od6 an6 : Option Addr} {sl6 : Array (Option Value)} {oc6 kV6 dc6 pm6 cd6 ct6 : Value} {f7 : Addr} {od7 an7 : Option Addr} {sl7 : Array (Option Value)} {oc7 kV7 dc7 pm7 cd7 ct7 : Value} {f8 : Addr} {od8 an8 : Option Addr} {sl8 : Array (Option Value)} {oc8 kV8 dc8 pm8 cd8 ct8 : Value} {f9 : Addr} {od9 an9 : Option Addr} {sl9 : Array (Option Value)} {oc9 kV9 dc9 pm9 cd9 ct9 : Value} {f10 : Addr} {od10 an10 : Option Addr} {sl10 : Array (Option Value)} {oc10 kV10 dc10 pm10 cd10 ct10 : Value} {f11 : Addr} {od11 an11 : Option Addr} {sl11 : Array (Option Value)} {oc11 kV11 dc11 pm11 cd11 ct11 : Value} {f12 : Addr} {od12 an12 : Option Addr} {sl12 : Array (Option Value)} {oc12 kV12 dc12 pm12 cd12 ct12 : Value} {f13 : Addr} {od13 an13 : Option Addr} {sl13 : Array (Option Value)} {oc13 kV13 dc13 pm13 cd13 ct13 : Value} {f14 : Addr} {od14 an14 : Option Addr} {sl14 : Array (Option Value)} {oc14 kV14 dc14 pm14 cd14 ct14 : Value} {f15 : Addr} {od15 an15 : Option Addr} {sl15 : Array (Option Value)} {oc15 kV15 dc15 pm15 cd15 ct15 : Value} {f16 : Addr} {od16 an16 : Option Addr} {sl16 : Array (Option Value)} {oc16 kV16 dc16 pm16 cd16 ct16 : Value} {f17 : Addr} {od17 an17 : Option Addr} {sl17 : Array (Option Value)} {oc17 kV17 dc17 pm17 cd17 ct17 : Value} {f18 : Addr} {od18 an18 : Option Addr} {sl18 : Array (Option Value)} {oc18 kV18 dc18 pm18 cd18 ct18 : Value} {f19 : Addr} {od19 an19 : Option Addr} {sl19 : Array (Option Value)} {oc19 kV19 dc19 pm19 cd19 ct19 : Value} {f20 : Addr} {od20 an20 : Option Addr} {sl20 : Array (Option Value)} {oc20 kV20 dc20 pm20 cd20 ct20 : Value} {f21 : Addr} {od21 an21 : Option Addr} {sl21 : Array (Option Value)} {oc21 kV21 dc21 pm21 cd21 ct21 : Value} {f22 : Addr} {od22 an22 : Option Addr} {sl22 : Array (Option Value)} {oc22 kV22 dc22 pm22 cd22 ct22 : Value} {f23 : Addr} {od23 an23 : Option Addr} {sl23 : Array (Option Value)} {oc23 kV23 dc23 pm23 cd23 ct23 : Value} {f24 : Addr} {od24 an24 : Option Addr} {sl24 : Array (Option Value)} {oc24 kV24 dc24 pm24 cd24 ct24 : Value} {f25 : Addr} {od25 an25 : Option Addr} {sl25 : Array (Option Value)} {oc25 kV25 dc25 pm25 cd25 ct25 : Value} {tk0 : Tok} {tk1 : Tok} {ca_NoShape : Addr} {ca_LandError : Addr} {ca_Clash : Addr} {ca_NoLand : Addr} {ca_NoName : Addr} {ca_NoRow : Addr} {ca_NoTelling : Addr} {ca_NoText : Addr} {ca_NoTime : Addr} {ca_NoTurn : Addr} {ca_NoWatch : Addr} {ca_TooMany : Addr}
  (a0 : PySem.W.nsIn K mainGlobals "is_whole" = some (some (.ref f0))) (l0 : K.lookup f0 = some ⟨oc0, od0, .func (PySem.W.fnOf "is_whole" "is_whole" (Zv QK) (Zo QK) (Ze QK) .none kV0 dc0 pm0 an0 cd0 ct0), sl0⟩) (c0 : PySem.W.codeIn K cd0 "is_whole" = true) (k0 : PySem.W.keepIn K (.ref f0) = true)
  (a1 : PySem.W.nsIn K mainGlobals "is_short" = some (some (.ref f1))) (l1 : K.lookup f1 = some ⟨oc1, od1, .func (PySem.W.fnOf "is_short" "is_short" (Zv QJ) (Zo QJ) (Ze QJ) .none kV1 dc1 pm1 an1 cd1 ct1), sl1⟩) (c1 : PySem.W.codeIn K cd1 "is_short" = true) (k1 : PySem.W.keepIn K (.ref f1) = true)
  (a2 : PySem.W.nsIn K mainGlobals "is_any_spot" = some (some (.ref f2))) (l2 : K.lookup f2 = some ⟨oc2, od2, .func (PySem.W.fnOf "is_any_spot" "is_any_spot" (Zv Z9) (Zo Z9) (Ze Z9) .none kV2 dc2 pm2 an2 cd2 ct2), sl2⟩) (c2 : PySem.W.codeIn K cd2 "is_any_spot" = true) (k2 : PySem.W.keepIn K (.ref f2) = true)
  (a3 : PySem.W.nsIn K mainGlobals "is_spot" = some (some (.ref f3))) (l3 : K.lookup f3 = some ⟨oc3, od3, .func (PySem.W.fnOf "is_spot" "is_spot" (Zv Q5) (Zo Q5) (Ze Q5) .none kV3 dc3 pm3 an3 cd3 ct3), sl3⟩) (c3 : PySem.W.codeIn K cd3 "is_spot" = true) (k3 : PySem.W.keepIn K (.ref f3) = true)
  (a4 : PySem.W.nsIn K mainGlobals "is_box" = some (some (.ref f4))) (l4 : K.lookup f4 = some ⟨oc4, od4, .func (PySem.W.fnOf "is_box" "is_box" (Zv JG) (Zo JG) (Ze JG) .none kV4 dc4 pm4 an4 cd4 ct4), sl4⟩) (c4 : PySem.W.codeIn K cd4 "is_box" = true) (k4 : PySem.W.keepIn K (.ref f4) = true)
  (a5 : PySem.W.nsIn K mainGlobals "has_spots" = some (some (.ref f5))) (l5 : K.lookup f5 = some ⟨oc5, od5, .func (PySem.W.fnOf "has_spots" "has_spots" (Zv Qq) (Zo Qq) (Ze Qq) .none kV5 dc5 pm5 an5 cd5 ct5), sl5⟩) (c5 : PySem.W.codeIn K cd5 "has_spots" = true) (k5 : PySem.W.keepIn K (.ref f5) = true)
  (a6 : PySem.W.nsIn K mainGlobals "steps_between" = some (some (.ref f6))) (l6 : K.lookup f6 = some ⟨oc6, od6, .func (PySem.W.fnOf "steps_between" "steps_between" (Zv ZW) (Zo ZW) (Ze ZW) .none kV6 dc6 pm6 an6 cd6 ct6), sl6⟩) (c6 : PySem.W.codeIn K cd6 "steps_between" = true) (k6 : PySem.W.keepIn K (.ref f6) = true)
  (a7 : PySem.W.nsIn K mainGlobals "gap" = some (some (.ref f7))) (l7 : K.lookup f7 = some ⟨oc7, od7, .func (PySem.W.fnOf "gap" "gap" (Zv Br) (Zo Br) (Ze Br) .none kV7 dc7 pm7 an7 cd7 ct7), sl7⟩) (c7 : PySem.W.codeIn K cd7 "gap" = true) (k7 : PySem.W.keepIn K (.ref f7) = true)
  (a8 : PySem.W.nsIn K mainGlobals "is_shape" = some (some (.ref f8))) (l8 : K.lookup f8 = some ⟨oc8, od8, .func (PySem.W.fnOf "is_shape" "is_shape" (Zv Qm) (Zo Qm) (Ze Qm) .none kV8 dc8 pm8 an8 cd8 ct8), sl8⟩) (c8 : PySem.W.codeIn K cd8 "is_shape" = true) (k8 : PySem.W.keepIn K (.ref f8) = true)
  (a9 : PySem.W.nsIn K mainGlobals "is_chain" = some (some (.ref f9))) (l9 : K.lookup f9 = some ⟨oc9, od9, .func (PySem.W.fnOf "is_chain" "is_chain" (Zv Qo) (Zo Qo) (Ze Qo) .none kV9 dc9 pm9 an9 cd9 ct9), sl9⟩) (c9 : PySem.W.codeIn K cd9 "is_chain" = true) (k9 : PySem.W.keepIn K (.ref f9) = true)
  (a10 : PySem.W.nsIn K mainGlobals "shape_of" = some (some (.ref f10))) (l10 : K.lookup f10 = some ⟨oc10, od10, .func (PySem.W.fnOf "shape_of" "shape_of" (Zv Qt) (Zo Qt) (Ze Qt) .none kV10 dc10 pm10 an10 cd10 ct10), sl10⟩) (c10 : PySem.W.codeIn K cd10 "shape_of" = true) (k10 : PySem.W.keepIn K (.ref f10) = true)
  (a11 : PySem.W.nsIn K mainGlobals "box_of" = some (some (.ref f11))) (l11 : K.lookup f11 = some ⟨oc11, od11, .func (PySem.W.fnOf "box_of" "box_of" (Zv Jc) (Zo Jc) (Ze Jc) .none kV11 dc11 pm11 an11 cd11 ct11), sl11⟩) (c11 : PySem.W.codeIn K cd11 "box_of" = true) (k11 : PySem.W.keepIn K (.ref f11) = true)
  (a12 : PySem.W.nsIn K mainGlobals "parts_of" = some (some (.ref f12))) (l12 : K.lookup f12 = some ⟨oc12, od12, .func (PySem.W.fnOf "parts_of" "parts_of" (Zv QH) (Zo QH) (Ze QH) .none kV12 dc12 pm12 an12 cd12 ct12), sl12⟩) (c12 : PySem.W.codeIn K cd12 "parts_of" = true) (k12 : PySem.W.keepIn K (.ref f12) = true)
  (a13 : PySem.W.nsIn K mainGlobals "_law_take" = some (some (.ref f13))) (l13 : K.lookup f13 = some ⟨oc13, od13, .func (PySem.W.fnOf "_law_take" "_law_take" (Zv Xq) (Zo Xq) (Ze Xq) .none kV13 dc13 pm13 an13 cd13 ct13), sl13⟩) (c13 : PySem.W.codeIn K cd13 "_law_take" = true) (k13 : PySem.W.keepIn K (.ref f13) = true)
  (a14 : PySem.W.nsIn K mainGlobals "_law_wide" = some (some (.ref f14))) (l14 : K.lookup f14 = some ⟨oc14, od14, .func (PySem.W.fnOf "_law_wide" "_law_wide" (Zv Xe) (Zo Xe) (Ze Xe) .none kV14 dc14 pm14 an14 cd14 ct14), sl14⟩) (c14 : PySem.W.codeIn K cd14 "_law_wide" = true) (k14 : PySem.W.keepIn K (.ref f14) = true)
  (a15 : PySem.W.nsIn K mainGlobals "_law_boxes" = some (some (.ref f15))) (l15 : K.lookup f15 = some ⟨oc15, od15, .func (PySem.W.fnOf "_law_boxes" "_law_boxes" (Zv J4) (Zo J4) (Ze J4) .none kV15 dc15 pm15 an15 cd15 ct15), sl15⟩) (c15 : PySem.W.codeIn K cd15 "_law_boxes" = true) (k15 : PySem.W.keepIn K (.ref f15) = true)
  (a16 : PySem.W.nsIn K mainGlobals "_law_stretched" = some (some (.ref f16))) (l16 : K.lookup f16 = some ⟨oc16, od16, .func (PySem.W.fnOf "_law_stretched" "_law_stretched" (Zv Qr) (Zo Qr) (Ze Qr) .none kV16 dc16 pm16 an16 cd16 ct16), sl16⟩) (c16 : PySem.W.codeIn K cd16 "_law_stretched" = true) (k16 : PySem.W.keepIn K (.ref f16) = true)
  (a17 : PySem.W.nsIn K mainGlobals "_law_stretch" = some (some (.ref f17))) (l17 : K.lookup f17 = some ⟨oc17, od17, .func (PySem.W.fnOf "_law_stretch" "_law_stretch" (Zv Q6) (Zo Q6) (Ze Q6) .none kV17 dc17 pm17 an17 cd17 ct17), sl17⟩) (c17 : PySem.W.codeIn K cd17 "_law_stretch" = true) (k17 : PySem.W.keepIn K (.ref f17) = true)
  (a18 : PySem.W.nsIn K mainGlobals "_law_put" = some (some (.ref f18))) (l18 : K.lookup f18 = some ⟨oc18, od18, .func (PySem.W.fnOf "_law_put" "_law_put" (Zv Bj) (Zo Bj) (Ze Bj) .none kV18 dc18 pm18 an18 cd18 ct18), sl18⟩) (c18 : PySem.W.codeIn K cd18 "_law_put" = true) (k18 : PySem.W.keepIn K (.ref f18) = true)
  (a19 : PySem.W.nsIn K mainGlobals "_law_odd_number" = some (some (.ref f19))) (l19 : K.lookup f19 = some ⟨oc19, od19, .func (PySem.W.fnOf "_law_odd_number" "_law_odd_number" (Zv Qg) (Zo Qg) (Ze Qg) .none kV19 dc19 pm19 an19 cd19 ct19), sl19⟩) (c19 : PySem.W.codeIn K cd19 "_law_odd_number" = true) (k19 : PySem.W.keepIn K (.ref f19) = true)
  (a20 : PySem.W.nsIn K mainGlobals "_law_odd_box" = some (some (.ref f20))) (l20 : K.lookup f20 = some ⟨oc20, od20, .func (PySem.W.fnOf "_law_odd_box" "_law_odd_box" (Zv Q4) (Zo Q4) (Ze Q4) .none kV20 dc20 pm20 an20 cd20 ct20), sl20⟩) (c20 : PySem.W.codeIn K cd20 "_law_odd_box" = true) (k20 : PySem.W.keepIn K (.ref f20) = true)
  (a21 : PySem.W.nsIn K mainGlobals "_law_away" = some (some (.ref f21))) (l21 : K.lookup f21 = some ⟨oc21, od21, .func (PySem.W.fnOf "_law_away" "_law_away" (Zv Xm) (Zo Xm) (Ze Xm) .none kV21 dc21 pm21 an21 cd21 ct21), sl21⟩) (c21 : PySem.W.codeIn K cd21 "_law_away" = true) (k21 : PySem.W.keepIn K (.ref f21) = true)
  (a22 : PySem.W.nsIn K mainGlobals "_law_wrong" = some (some (.ref f22))) (l22 : K.lookup f22 = some ⟨oc22, od22, .func (PySem.W.fnOf "_law_wrong" "_law_wrong" (Zv VF) (Zo VF) (Ze VF) .none kV22 dc22 pm22 an22 cd22 ct22), sl22⟩) (c22 : PySem.W.codeIn K cd22 "_law_wrong" = true) (k22 : PySem.W.keepIn K (.ref f22) = true)
  (a23 : PySem.W.nsIn K mainGlobals "_law_listed" = some (some (.ref f23))) (l23 : K.lookup f23 = some ⟨oc23, od23, .func (PySem.W.fnOf "_law_listed" "_law_listed" (Zv Jf) (Zo Jf) (Ze Jf) .none kV23 dc23 pm23 an23 cd23 ct23), sl23⟩) (c23 : PySem.W.codeIn K cd23 "_law_listed" = true) (k23 : PySem.W.keepIn K (.ref f23) = true)
  (a24 : PySem.W.nsIn K mainGlobals "_law_refused" = some (some (.ref f24))) (l24 : K.lookup f24 = some ⟨oc24, od24, .func (PySem.W.fnOf "_law_refused" "_law_refused" (Zv Q1) (Zo Q1) (Ze Q1) .none kV24 dc24 pm24 an24 cd24 ct24), sl24⟩) (c24 : PySem.W.codeIn K cd24 "_law_refused" = true) (k24 : PySem.W.keepIn K (.ref f24) = true)
  (a25 : PySem.W.nsIn K mainGlobals "law" = some (some (.ref f25))) (l25 : K.lookup f25 = some ⟨oc25, od25, .func (PySem.W.fnOf "law" "law" (Zv GU) (Zo GU) (Ze GU) .none kV25 dc25 pm25 an25 cd25 ct25), sl25⟩) (c25 : PySem.W.codeIn K cd25 "law" = true) (k25 : PySem.W.keepIn K (.ref f25) = true)
  (z0 : PySem.W.nsIn K mainGlobals "ValueError" = some none)
  (z1 : PySem.W.nsIn K mainGlobals "abs" = some none)
  (z2 : PySem.W.nsIn K mainGlobals "all" = some none)
  (z3 : PySem.W.nsIn K mainGlobals "bool" = some none)
  (z4 : PySem.W.nsIn K mainGlobals "int" = some none)
  (z5 : PySem.W.nsIn K mainGlobals "isinstance" = some none)
  (z6 : PySem.W.nsIn K mainGlobals "len" = some none)
  (z7 : PySem.W.nsIn K mainGlobals "list" = some none)
  (z8 : PySem.W.nsIn K mainGlobals "max" = some none)
  (z9 : PySem.W.nsIn K mainGlobals "range" = some none)
  (z10 : PySem.W.nsIn K mainGlobals "repr" = some none)
  (z11 : PySem.W.nsIn K mainGlobals "str" = some none)
  (z12 : PySem.W.nsIn K mainGlobals "tuple" = some none)
  (u0 : PySem.W.nsIn K mainGlobals "MOST" = some (some (.int 999999999999 tk0)))
  (u1 : PySem.W.nsIn K mainGlobals "MOST_BOXES" = some (some (.int 6 tk1)))
  (cm_NoShape : PySem.W.nsIn K mainGlobals "NoShape" = some (some (.ref ca_NoShape)))
  (cm_LandError : PySem.W.nsIn K mainGlobals "LandError" = some (some (.ref ca_LandError)))
  (cm_Clash : PySem.W.nsIn K mainGlobals "Clash" = some (some (.ref ca_Clash)))
  (cm_NoLand : PySem.W.nsIn K mainGlobals "NoLand" = some (some (.ref ca_NoLand)))
  (cm_NoName : PySem.W.nsIn K mainGlobals "NoName" = some (some (.ref ca_NoName)))
  (cm_NoRow : PySem.W.nsIn K mainGlobals "NoRow" = some (some (.ref ca_NoRow)))
  (cm_NoTelling : PySem.W.nsIn K mainGlobals "NoTelling" = some (some (.ref ca_NoTelling)))
  (cm_NoText : PySem.W.nsIn K mainGlobals "NoText" = some (some (.ref ca_NoText)))
  (cm_NoTime : PySem.W.nsIn K mainGlobals "NoTime" = some (some (.ref ca_NoTime)))
  (cm_NoTurn : PySem.W.nsIn K mainGlobals "NoTurn" = some (some (.ref ca_NoTurn)))
  (cm_NoWatch : PySem.W.nsIn K mainGlobals "NoWatch" = some (some (.ref ca_NoWatch)))
  (cm_TooMany : PySem.W.nsIn K mainGlobals "TooMany" = some (some (.ref ca_TooMany)))
  (cx_NoShape : PySem.W.excIn K ca_NoShape [.type "ValueError", .type "Exception", .type "BaseException", .type "object"] "ValueError.__new__" = true)
  (ck_NoShape_0 : PySem.W.findIn K (.ref ca_NoShape) "__getattribute__" = some (some (.builtin "BaseException.__getattribute__")))
  (ck_NoShape_1 : PySem.W.findIn K (.ref ca_NoShape) "__getattr__" = some none)
  (ck_NoShape_2 : PySem.W.findIn K (.ref ca_NoShape) "__class__" = some (some (.builtin "object.__class__")))
  (ck_NoShape_3 : PySem.W.specialIn K (.builtin "object.__class__") "__get__" = some (some (.builtin "getset_descriptor.__get__")))
  (ck_NoShape_4 : PySem.W.takesIn K (.builtin "object.__class__") = some true)
  (ck_NoShape_5 : PySem.W.mroIn K ca_NoShape (.type "object") = some true)
  (ck_NoShape_6 : PySem.W.mroIn K ca_NoShape (.type "BaseException") = some true)
  (ck_NoShape_7 : PySem.W.isClsIn K ca_NoShape = true)
  (cc_NoShape_LandError_0 : PySem.W.subIn K (.ref ca_NoShape) (.ref ca_LandError) = some true)
  (cc_NoShape_LandError_1 : PySem.W.subIn K (.ref ca_LandError) (.type "BaseException") = some true)
  (cc_NoShape_LandError_2 : PySem.W.typeIn K (.ref ca_LandError) = some (.type "type"))
  (cc_NoShape_LandError_3 : PySem.W.isClsIn K ca_LandError = true)
  (cf_q1 : PySem.W.kitOne K (.ref ca_NoShape) (.ref ca_NoShape) = some true)
  (cf_q2 : PySem.W.kitOne K (.ref ca_NoShape) (.type "ValueError") = some true)
  (cf_q3 : PySem.W.kitOne K (.type "NoneType") (.ref ca_NoShape) = some false)
  (cf_q4 : PySem.W.kitAny K (.ref ca_NoShape) [.ref ca_Clash, .ref ca_NoLand, .ref ca_NoName, .ref ca_NoRow, .ref ca_NoTelling, .ref ca_NoText, .ref ca_NoTime, .ref ca_NoTurn, .ref ca_NoWatch, .ref ca_TooMany] = some false)
  (cf_q5 : PySem.W.kitAny K (.type "NoneType") [.ref ca_Clash, .ref ca_NoLand, .ref ca_NoName, .ref ca_NoRow, .ref ca_NoTelling, .ref ca_NoText, .ref ca_NoTime, .ref ca_NoTurn, .ref ca_NoWatch, .ref ca_TooMany] = some false) :
  ∃ fd : FuncData, (∀ (s : Shared) (v : Value), BindsTo s fd ⟨[v], []⟩ [("_law_script", v)]) ∧ ∀ base : Heap, K.In base → base.Ns mainGlobals mg → ZZ l.prog w K mg base CX0 8 fa fd ["_law_script"] (lift K BZ) := by
 have e := hfa.symm.trans (PySem.W.mg_of X G a25)
 cases e
 have F0 := ZX (st := QK) l0 c0 k0
 have b0 := F0.binds (ps := ["thing"]) fun _ _ _ _ _ _ us hl => by obtain ⟨_, rfl⟩ := JP hl; rfl
 have F1 := ZX (st := QJ) l1 c1 k1
 have b1 := F1.binds (ps := ["thing"]) fun _ _ _ _ _ _ us hl => by obtain ⟨_, rfl⟩ := JP hl; rfl
 have F2 := ZX (st := Z9) l2 c2 k2
 have b2 := F2.binds (ps := ["thing"]) fun _ _ _ _ _ _ us hl => by obtain ⟨_, rfl⟩ := JP hl; rfl
 have F3 := ZX (st := Q5) l3 c3 k3
 have b3 := F3.binds (ps := ["thing"]) fun _ _ _ _ _ _ us hl => by obtain ⟨_, rfl⟩ := JP hl; rfl
 have F4 := ZX (st := JG) l4 c4 k4
 have b4 := F4.binds (ps := ["thing"]) fun _ _ _ _ _ _ us hl => by obtain ⟨_, rfl⟩ := JP hl; rfl
 have F5 := ZX (st := Qq) l5 c5 k5
 have b5 := F5.binds (ps := ["box"]) fun _ _ _ _ _ _ us hl => by obtain ⟨_, rfl⟩ := JP hl; rfl
 have F6 := ZX (st := ZW) l6 c6 k6
 have b6 := F6.binds (ps := ["one", "other"]) fun _ _ _ _ _ _ us hl => by obtain ⟨_, _, rfl⟩ := W4 hl; rfl
 have F7 := ZX (st := Br) l7 c7 k7
 have b7 := F7.binds (ps := ["one", "other", "way"]) fun _ _ _ _ _ _ us hl => by obtain ⟨_, _, _, rfl⟩ := OM hl; rfl
 have F8 := ZX (st := Qm) l8 c8 k8
 have b8 := F8.binds (ps := ["thing"]) fun _ _ _ _ _ _ us hl => by obtain ⟨_, rfl⟩ := JP hl; rfl
 have F9 := ZX (st := Qo) l9 c9 k9
 have b9 := F9.binds (ps := ["boxes"]) fun _ _ _ _ _ _ us hl => by obtain ⟨_, rfl⟩ := JP hl; rfl
 have F10 := ZX (st := Qt) l10 c10 k10
 have b10 := F10.binds (ps := ["things"]) fun _ _ _ _ _ _ us hl => by obtain ⟨_, rfl⟩ := JP hl; rfl
 have F11 := ZX (st := Jc) l11 c11 k11
 have b11 := F11.binds (ps := ["thing"]) fun _ _ _ _ _ _ us hl => by obtain ⟨_, rfl⟩ := JP hl; rfl
 have F12 := ZX (st := QH) l12 c12 k12
 have b12 := F12.binds (ps := ["thing"]) fun _ _ _ _ _ _ us hl => by obtain ⟨_, rfl⟩ := JP hl; rfl
 have F13 := ZX (st := Xq) l13 c13 k13
 have b13 := F13.binds (ps := ["_law_pen", "_law_many"]) fun _ _ _ _ _ _ us hl => by obtain ⟨_, _, rfl⟩ := W4 hl; rfl
 have F14 := ZX (st := Xe) l14 c14 k14
 have b14 := F14.binds (ps := ["_law_pen", "_law_many"]) fun _ _ _ _ _ _ us hl => by obtain ⟨_, _, rfl⟩ := W4 hl; rfl
 have F15 := ZX (st := J4) l15 c15 k15
 have b15 := F15.binds (ps := ["_law_pen", "_law_most"]) fun _ _ _ _ _ _ us hl => by obtain ⟨_, _, rfl⟩ := W4 hl; rfl
 have F16 := ZX (st := Qr) l16 c16 k16
 have b16 := F16.binds (ps := ["_law_boxes_here", "_law_by", "_law_off"]) fun _ _ _ _ _ _ us hl => by obtain ⟨_, _, _, rfl⟩ := OM hl; rfl
 have F17 := ZX (st := Q6) l17 c17 k17
 have b17 := F17.binds (ps := ["_law_pen"]) fun _ _ _ _ _ _ us hl => by obtain ⟨_, rfl⟩ := JP hl; rfl
 have F18 := ZX (st := Bj) l18 c18 k18
 have b18 := F18.binds (ps := ["_law_some", "_law_at", "_law_thing"]) fun _ _ _ _ _ _ us hl => by obtain ⟨_, _, _, rfl⟩ := OM hl; rfl
 have F19 := ZX (st := Qg) l19 c19 k19
 have b19 := F19.binds (ps := ["_law_pen"]) fun _ _ _ _ _ _ us hl => by obtain ⟨_, rfl⟩ := JP hl; rfl
 have F20 := ZX (st := Q4) l20 c20 k20
 have b20 := F20.binds (ps := ["_law_pen", "_law_box"]) fun _ _ _ _ _ _ us hl => by obtain ⟨_, _, rfl⟩ := W4 hl; rfl
 have F21 := ZX (st := Xm) l21 c21 k21
 have b21 := F21.binds (ps := ["_law_pen", "_law_box"]) fun _ _ _ _ _ _ us hl => by obtain ⟨_, _, rfl⟩ := W4 hl; rfl
 have F22 := ZX (st := VF) l22 c22 k22
 have b22 := F22.binds (ps := ["_law_pen", "_law_shape"]) fun _ _ _ _ _ _ us hl => by obtain ⟨_, _, rfl⟩ := W4 hl; rfl
 have F23 := ZX (st := Jf) l23 c23 k23
 have b23 := F23.binds (ps := ["_law_shape"]) fun _ _ _ _ _ _ us hl => by obtain ⟨_, rfl⟩ := JP hl; rfl
 have F24 := ZX (st := Q1) l24 c24 k24
 have b24 := F24.binds (ps := ["_law_thing"]) fun _ _ _ _ _ _ us hl => by obtain ⟨_, rfl⟩ := JP hl; rfl
 have F25 := ZX (st := GU) l25 c25 k25
 have b25 := F25.binds (ps := ["_law_script"]) fun _ _ _ _ _ _ us hl => by obtain ⟨_, rfl⟩ := JP hl; rfl
 let T : Tx K mg := ⟨_, _, ⟨F0, PySem.W.mg_of X G a0, b0⟩, _, _, ⟨F1, PySem.W.mg_of X G a1, b1⟩, _, _, ⟨F2, PySem.W.mg_of X G a2, b2⟩, _, _, ⟨F3, PySem.W.mg_of X G a3, b3⟩, _, _, ⟨F4, PySem.W.mg_of X G a4, b4⟩, _, _, ⟨F5, PySem.W.mg_of X G a5, b5⟩, _, _, ⟨F6, PySem.W.mg_of X G a6, b6⟩, _, _, ⟨F7, PySem.W.mg_of X G a7, b7⟩, _, _, ⟨F8, PySem.W.mg_of X G a8, b8⟩, _, _, ⟨F9, PySem.W.mg_of X G a9, b9⟩, _, _, ⟨F10, PySem.W.mg_of X G a10, b10⟩, _, _, ⟨F11, PySem.W.mg_of X G a11, b11⟩, _, _, ⟨F12, PySem.W.mg_of X G a12, b12⟩, _, _, ⟨F13, PySem.W.mg_of X G a13, b13⟩, _, _, ⟨F14, PySem.W.mg_of X G a14, b14⟩, _, _, ⟨F15, PySem.W.mg_of X G a15, b15⟩, _, _, ⟨F16, PySem.W.mg_of X G a16, b16⟩, _, _, ⟨F17, PySem.W.mg_of X G a17, b17⟩, _, _, ⟨F18, PySem.W.mg_of X G a18, b18⟩, _, _, ⟨F19, PySem.W.mg_of X G a19, b19⟩, _, _, ⟨F20, PySem.W.mg_of X G a20, b20⟩, _, _, ⟨F21, PySem.W.mg_of X G a21, b21⟩, _, _, ⟨F22, PySem.W.mg_of X G a22, b22⟩, _, _, ⟨F23, PySem.W.mg_of X G a23, b23⟩, _, _, ⟨F24, PySem.W.mg_of X G a24, b24⟩, _, _, ⟨F25, PySem.W.mg_of X G a25, b25⟩, PySem.W.mg_none_of X G z0, PySem.W.mg_none_of X G z1, PySem.W.mg_none_of X G z2, PySem.W.mg_none_of X G z3, PySem.W.mg_none_of X G z4, PySem.W.mg_none_of X G z5, PySem.W.mg_none_of X G z6, PySem.W.mg_none_of X G z7, PySem.W.mg_none_of X G z8, PySem.W.mg_none_of X G z9, PySem.W.mg_none_of X G z10, PySem.W.mg_none_of X G z11, PySem.W.mg_none_of X G z12, _, PySem.W.mg_of X G u0, _, PySem.W.mg_of X G u1, _, PySem.W.mg_of X G cm_NoShape, _, PySem.W.mg_of X G cm_LandError, _, PySem.W.mg_of X G cm_Clash, _, PySem.W.mg_of X G cm_NoLand, _, PySem.W.mg_of X G cm_NoName, _, PySem.W.mg_of X G cm_NoRow, _, PySem.W.mg_of X G cm_NoTelling, _, PySem.W.mg_of X G cm_NoText, _, PySem.W.mg_of X G cm_NoTime, _, PySem.W.mg_of X G cm_NoTurn, _, PySem.W.mg_of X G cm_NoWatch, _, PySem.W.mg_of X G cm_TooMany, cx_NoShape, ⟨ck_NoShape_0, ck_NoShape_1, ck_NoShape_2, ck_NoShape_3, ck_NoShape_4, ck_NoShape_5, ck_NoShape_6, ck_NoShape_7⟩, ⟨cc_NoShape_LandError_0, cc_NoShape_LandError_1, cc_NoShape_LandError_2, cc_NoShape_LandError_3⟩, cf_q1, cf_q2, cf_q3, cf_q4, cf_q5⟩
 exact ⟨_, fun s v => .of_eq rfl, fun base _ _ => Rw T⟩
theorem walk {l : PySem.W.OpenLaw} {q : Program} {loose : List Str} {XP : (Str → Option Value) → Heap → Prop} {YP : World → Heap → Prop} {d : DefRec} {K : Params → PySem.W.Frag} (hn : l.most = some 63) (hdf : d.params.defaults = [])
  (hY : ∀ (w : World) (h : Heap), YP w h → (K w.params).In h)
  (F : ∀ (w : World) (mg : Str → Option Value) (fa : Addr) (h : Heap), (K w.params).In h → h.Ns mainGlobals mg → mg d.name = some (.ref fa) →
   ∃ fd : FuncData, (∀ (s : Shared) (u : Value), BindsTo s fd ⟨[u], []⟩ [("_law_script", u)]) ∧ ∀ base : Heap, (K w.params).In base → base.Ns mainGlobals mg → ZZ l.prog w (K w.params) mg base CX0 8 fa fd ["_law_script"] (lift (K w.params) BZ)) :
  PySem.W.WalkO q loose XP YP l.row.toRowW d [] (fun f vs => PySem.call f vs) :=
 L2.OG (n := 63) (k := 8) (x := "_law_script") (CX := fun _ => CX0) (sp := fun w => lift (K w.params) BZ) hn (by decide) hdf ⟨rfl, by decide, by decide, rfl⟩ hY F
  (fun w H a ns hl hO hS => Em hl hO hS) fun _ _ _ _ _ z => z
end My
theorem PySem.W.Fast.tw9893302182446886160 : True := trivial
theorem PySem.W.Fast.tw14107810409150289851 : True := trivial
theorem PySem.W.Fast.tw9199531873178205317 : True := trivial
theorem PySem.W.Fast.tw15117981994678565188 : True := trivial
theorem PySem.W.Fast.tw13678030699047793749 : True := trivial
theorem PySem.W.Fast.tw15000107655179821356 : True := trivial
theorem PySem.W.Fast.tw17596936511510397743 : True := trivial
theorem PySem.W.Fast.tw8802001498862255161 : True := trivial
theorem PySem.W.Fast.tw10118285813157359136 : True := trivial
theorem PySem.W.Fast.tw12778154641115799918 : True := trivial
theorem PySem.W.Fast.tw8818203857789651324 : True := trivial
theorem PySem.W.Fast.tw8729981359516319116 : True := trivial
theorem PySem.W.Fast.tw10607337327153331829 : True := trivial
theorem PySem.W.Fast.tw15371210098293555477 : True := trivial
theorem PySem.W.Fast.tw4185186826914493758 : True := trivial
theorem PySem.W.Fast.tw9587236452805015262 : True := trivial
theorem PySem.W.Fast.tw7752349580233307357 : True := trivial
theorem PySem.W.Fast.tw11452547142816365559 : True := trivial
theorem PySem.W.Fast.tw15621058320117628809 : True := trivial
theorem PySem.W.Fast.tw7938042130869825705 : True := trivial
theorem PySem.W.Fast.tw15434050153493657843 : True := trivial
theorem PySem.W.Fast.tw12053524510717079610 : True := trivial
theorem PySem.W.Fast.tw18120131165126925426 : True := trivial
theorem PySem.W.Fast.tw14232843179336520753 : True := trivial
theorem PySem.W.Fast.tw18425747082913900485 : True := trivial
theorem PySem.W.Fast.tw5609993820442330736 : True := trivial
theorem PySem.W.Fast.tw11588102371458430977 : True := trivial
theorem PySem.W.Fast.tw16620127920427923974 : True := trivial
theorem PySem.W.Fast.tw9353725109893219272 : True := trivial
theorem PySem.W.Fast.tw9451201767180042199 : True := trivial
theorem PySem.W.Fast.tw16384931658011715600 : True := trivial
theorem PySem.W.Fast.tw5290884900238638585 : True := trivial
theorem PySem.W.Fast.tw12311503200165667725 : True := trivial
theorem PySem.W.Fast.tw9502844179682974799 : True := trivial
theorem PySem.W.Fast.tw7637129327780884296 : True := trivial
theorem PySem.W.Fast.tw5300646877907489220 : True := trivial
theorem PySem.W.Fast.tw15136460024899374930 : True := trivial
theorem PySem.W.Fast.tw6215890126745776042 : True := trivial
theorem PySem.W.Fast.tw2071394015510412344 : True := trivial
theorem PySem.W.Fast.tw4643824484965456490 : True := trivial
theorem PySem.W.Fast.tw2425889029057458767 : True := trivial
theorem PySem.W.Fast.tw13221410197114234325 : True := trivial
theorem PySem.W.Fast.tw3833546609165491675 : True := trivial
theorem PySem.W.Fast.tw13228901318638057150 : True := trivial
theorem PySem.W.Fast.tw1791739650892968330 : True := trivial
theorem PySem.W.Fast.tw14670405869679920787 : True := trivial
theorem PySem.W.Fast.tw4596744366726516326 : True := trivial
theorem PySem.W.Fast.tw1957719082019578757 : True := trivial
theorem PySem.W.Fast.tw3846190940442436694 : True := trivial
theorem PySem.W.Fast.tw8594305810598100079 : True := trivial
theorem PySem.W.Fast.tw2769590515820730273 : True := trivial
theorem PySem.W.Fast.tw9951798137283148080 : True := trivial
theorem PySem.W.Fast.tw14585936781937096640 : True := trivial
theorem PySem.W.Fast.tw16437942705650133501 : True := trivial
theorem PySem.W.Fast.tw4161719469173024285 : True := trivial
theorem PySem.W.Fast.tw2115778323875888138 : True := trivial
theorem PySem.W.Fast.tw2011862611938408583 : True := trivial
theorem PySem.W.Fast.tw2904460964826678665 : True := trivial
theorem PySem.W.Fast.tw1599996933195274756 : True := trivial
theorem PySem.W.Fast.tw12198057501442770541 : True := trivial
theorem PySem.W.Fast.tw7900311962705407641 : True := trivial
theorem PySem.W.Fast.tw14313527076406713282 : True := trivial
theorem PySem.W.Fast.tw8931191433464790672 : True := trivial
theorem PySem.W.Fast.tw4714678176048103414 : True := trivial
theorem PySem.W.Fast.tw17125612416706483390 : True := trivial
theorem PySem.W.Fast.tw12702564142661173553 : True := trivial
theorem PySem.W.Fast.tw1234283424553274030 : True := trivial
theorem PySem.W.Fast.tw3452447841502613597 : True := trivial
theorem PySem.W.Fast.tw9129075919611519974 : True := trivial
theorem PySem.W.Fast.tw3734994683630552254 : True := trivial
theorem PySem.W.Fast.tw13704619948908372188 : True := trivial
theorem PySem.W.Fast.tw7560668837570490640 : True := trivial
theorem PySem.W.Fast.tw13598701131479160014 : True := trivial
theorem PySem.W.Fast.tw17471316505878533424 : True := trivial
theorem PySem.W.Fast.tw8293892404895330282 : True := trivial
theorem PySem.W.Fast.tw12747052492577600900 : True := trivial
theorem PySem.W.Fast.tw5716988619868714415 : True := trivial
theorem PySem.W.Fast.tw7771268259653906519 : True := trivial
theorem PySem.W.Fast.tw1826211662018218014 : True := trivial
theorem PySem.W.Fast.tw76196029309443498 : True := trivial
theorem PySem.W.Fast.tw2705570676002287267 : True := trivial
theorem PySem.W.Fast.tw12789243443392510767 : True := trivial
theorem PySem.W.Fast.tw16124385285962025002 : True := trivial
theorem PySem.W.Fast.tw14852987293936979035 : True := trivial
theorem PySem.W.Fast.tw6329558502903077334 : True := trivial
theorem PySem.W.Fast.tw8395711357258746320 : True := trivial
theorem PySem.W.Fast.tw17763316276542682502 : True := trivial
theorem PySem.W.Fast.tw162995537712471470 : True := trivial
theorem PySem.W.Fast.tw2980566615612421239 : True := trivial
theorem PySem.W.Fast.tw8242267287600198084 : True := trivial
theorem PySem.W.Fast.tw9308787051091235852 : True := trivial
theorem PySem.W.Fast.tw15795214337200761451 : True := trivial
theorem PySem.W.Fast.tw3612286143465392053 : True := trivial
theorem PySem.W.Fast.tw14287544713246926043 : True := trivial
theorem PySem.W.Fast.tw3790860312498407204 : True := trivial
theorem PySem.W.Fast.tw11409241413615388584 : True := trivial
theorem PySem.W.Fast.tw17579663824480320744 : True := trivial
theorem PySem.W.Fast.tw14737704518774810192 : True := trivial
theorem PySem.W.Fast.tw12550485603007984077 : True := trivial
theorem PySem.W.Fast.tw17161140133658278193 : True := trivial
theorem PySem.W.Fast.tw17374092182335516879 : True := trivial
theorem PySem.W.Fast.tw3404574859498269486 : True := trivial
theorem PySem.W.Fast.tw18150100225713092138 : True := trivial
theorem PySem.W.Fast.tw11070151389920873849 : True := trivial
theorem PySem.W.Fast.tw8491966087039188171 : True := trivial
theorem PySem.W.Fast.tw5308437294263582094 : True := trivial
theorem PySem.W.Fast.tw7479591649425810032 : True := trivial
theorem PySem.W.Fast.tw2426036284515584123 : True := trivial
theorem PySem.W.Fast.tw17847911509552005379 : True := trivial
theorem PySem.W.Fast.tw6266224366975798161 : True := trivial
theorem PySem.W.Fast.tw453140313301205874 : True := trivial
theorem PySem.W.Fast.tw13758826070662946889 : True := trivial
theorem PySem.W.Fast.tw8165323655693168325 : True := trivial
theorem PySem.W.Fast.tw15131916167296335662 : True := trivial
theorem PySem.W.Fast.tw4336709150768843047 : True := trivial
theorem PySem.W.Fast.tw12917188014276914615 : True := trivial
theorem PySem.W.Fast.tw435755146937047770 : True := trivial
theorem PySem.W.Fast.tw14678215907362344042 : True := trivial
theorem PySem.W.Fast.tw573700749871782323 : True := trivial
theorem PySem.W.Fast.tw14629280132571370829 : True := trivial
theorem PySem.W.Fast.tw5666925265930974405 : True := trivial
theorem PySem.W.Fast.tw3992946083644127521 : True := trivial
theorem PySem.W.Fast.tw2508018856554541608 : True := trivial
theorem PySem.W.Fast.tw9218000900283944597 : True := trivial
theorem PySem.W.Fast.tw15916291031256024924 : True := trivial
theorem PySem.W.Fast.tw10358715098693782003 : True := trivial
theorem PySem.W.Fast.tw5280780125854234257 : True := trivial
theorem PySem.W.Fast.tw11950203779498330893 : True := trivial
theorem PySem.W.Fast.tw15066382283973107649 : True := trivial
theorem PySem.W.Fast.tw18292625403956673248 : True := trivial
theorem PySem.W.Fast.tw8197395074960722480 : True := trivial
theorem PySem.W.Fast.tw17001736340148967132 : True := trivial
theorem PySem.W.Fast.tw4398557180176854307 : True := trivial
theorem PySem.W.Fast.tw4999252744628487549 : True := trivial
theorem PySem.W.Fast.tw7513608128972766607 : True := trivial
theorem PySem.W.Fast.tw1462381795634378694 : True := trivial
theorem PySem.W.Fast.tw1515360200923353020 : True := trivial
theorem PySem.W.Fast.tw681767491524207732 : True := trivial
theorem PySem.W.Fast.tw17827644960498026458 : True := trivial
theorem PySem.W.Fast.tw6362020000853126314 : True := trivial
theorem PySem.W.Fast.tw3637824991982772805 : True := trivial
theorem PySem.W.Fast.tw8850944973788705566 : True := trivial
theorem PySem.W.Fast.tw7818772883333200132 : True := trivial
theorem PySem.W.Fast.tw18350598169104728725 : True := trivial
theorem PySem.W.Fast.tw12275274037381371919 : True := trivial
theorem PySem.W.Fast.tw15596805534327060773 : True := trivial
theorem PySem.W.Fast.tw12181936518688205128 : True := trivial
theorem PySem.W.Fast.tw14098341492504434387 : True := trivial
theorem PySem.W.Fast.tw4954882457954583080 : True := trivial
theorem PySem.W.Fast.tw450036730416154949 : True := trivial
theorem PySem.W.Fast.tw5126973664092902212 : True := trivial
theorem PySem.W.Fast.tw1693436913522599184 : True := trivial
theorem PySem.W.Fast.tw1832238935984499123 : True := trivial
theorem PySem.W.Fast.tw433026683704644326 : True := trivial
theorem PySem.W.Fast.tw7591537984582478443 : True := trivial
theorem PySem.W.Fast.tw8278294166842623564 : True := trivial
theorem PySem.W.Fast.tw11886624529855405828 : True := trivial
theorem PySem.W.Fast.tw406092659519801855 : True := trivial
theorem PySem.W.Fast.tw10982555355909870185 : True := trivial
theorem PySem.W.Fast.tw2592721572320822757 : True := trivial
theorem PySem.W.Fast.tw6941980161273368885 : True := trivial
theorem PySem.W.Fast.tw13699708860271280538 : True := trivial
theorem PySem.W.Fast.tw1721753341555157142 : True := trivial
theorem PySem.W.Fast.tw14256708395771867541 : True := trivial
theorem PySem.W.Fast.tw15396677001945240628 : True := trivial
theorem PySem.W.Fast.tw1227853253820800477 : True := trivial
theorem PySem.W.Fast.tw6222277468276075162 : True := trivial
theorem PySem.W.Fast.tw13519803641651618521 : True := trivial
theorem PySem.W.Fast.tw13003753278105587165 : True := trivial
theorem PySem.W.Fast.tw17513482783951263765 : True := trivial
theorem PySem.W.Fast.tw13944035529344203950 : True := trivial
theorem PySem.W.Fast.tw7692755002886931653 : True := trivial
theorem PySem.W.Fast.tw11032858021430119449 : True := trivial
theorem PySem.W.Fast.tw12090185662574252622 : True := trivial
theorem PySem.W.Fast.tw13231701185232760933 : True := trivial
theorem PySem.W.Fast.tw16728882117559167850 : True := trivial
theorem PySem.W.Fast.tw13640944240511835965 : True := trivial
theorem PySem.W.Fast.tw5147188163852671626 : True := trivial
theorem PySem.W.Fast.tw16768157553705422393 : True := trivial
theorem PySem.W.Fast.tw4237848960751248939 : True := trivial
theorem PySem.W.Fast.tw10235028117943663606 : True := trivial
theorem PySem.W.Fast.tw16588272636598084522 : True := trivial
theorem PySem.W.Fast.tw6144483468922119826 : True := trivial
theorem PySem.W.Fast.tw16596328705620368721 : True := trivial
theorem PySem.W.Fast.tw13356961137270755973 : True := trivial
theorem PySem.W.Fast.tw4724312817756307414 : True := trivial
theorem PySem.W.Fast.tw8723346686648244035 : True := trivial
theorem PySem.W.Fast.tw10994278997963082091 : True := trivial
theorem PySem.W.Fast.tw10030307846398026871 : True := trivial
theorem PySem.W.Fast.tw17882649340422239231 : True := trivial
theorem PySem.W.Fast.tw9187027499027168312 : True := trivial
theorem PySem.W.Fast.tw7562262476397855184 : True := trivial
theorem PySem.W.Fast.tw11902106921437042548 : True := trivial
theorem PySem.W.Fast.tw3925306946532758028 : True := trivial
theorem PySem.W.Fast.tw7735116779899604119 : True := trivial
theorem PySem.W.Fast.tw1380071217026866182 : True := trivial
theorem PySem.W.Fast.tw15766514999433447849 : True := trivial
theorem PySem.W.Fast.tw558174248904346463 : True := trivial
theorem PySem.W.Fast.tw17787523060198299494 : True := trivial
theorem PySem.W.Fast.tw18007261079946809067 : True := trivial
theorem PySem.W.Fast.tw3492666816712899537 : True := trivial
theorem PySem.W.Fast.tw2458044884158095775 : True := trivial
theorem PySem.W.Fast.tw13589372823463050669 : True := trivial
theorem PySem.W.Fast.tw6581115169276745978 : True := trivial
theorem PySem.W.Fast.tw10698112847550182063 : True := trivial
theorem PySem.W.Fast.tw7588833993642470052 : True := trivial
theorem PySem.W.Fast.tw1110526259851123081 : True := trivial
theorem PySem.W.Fast.tw9904124507667178569 : True := trivial
theorem PySem.W.Fast.tw13033110352240373283 : True := trivial
theorem PySem.W.Fast.tw11385094594941753209 : True := trivial
theorem PySem.W.Fast.tw10692806772677021478 : True := trivial
theorem PySem.W.Fast.tw18150405286761916002 : True := trivial
theorem PySem.W.Fast.tw12582491584585713700 : True := trivial
theorem PySem.W.Fast.tw5410937186897130438 : True := trivial
theorem PySem.W.Fast.tw12186570051976249593 : True := trivial
theorem PySem.W.Fast.tw3590467642469273177 : True := trivial
theorem PySem.W.Fast.tw18171252220184693274 : True := trivial
theorem PySem.W.Fast.tw8673965522409613244 : True := trivial
theorem PySem.W.Fast.tw11599158452125319265 : True := trivial
theorem PySem.W.Fast.tw7419332772236947938 : True := trivial
theorem PySem.W.Fast.tw10467046403760628097 : True := trivial
theorem PySem.W.Fast.tw2984642996008644573 : True := trivial
theorem PySem.W.Fast.tw2552576331663522541 : True := trivial
theorem PySem.W.Fast.tw6039288429897315082 : True := trivial
theorem PySem.W.Fast.tw7203822263657861752 : True := trivial
theorem PySem.W.Fast.tw16480699779816790110 : True := trivial
theorem PySem.W.Fast.tw15272234932265792185 : True := trivial
theorem PySem.W.Fast.tw6958239278762426678 : True := trivial
theorem PySem.W.Fast.tw10705332132824281911 : True := trivial
theorem PySem.W.Fast.tw6433891036517922709 : True := trivial
theorem PySem.W.Fast.tw15601686634426930348 : True := trivial
theorem PySem.W.Fast.tw17796772839904202838 : True := trivial
theorem PySem.W.Fast.tw15603065779181912070 : True := trivial
theorem PySem.W.Fast.tw14425925239457329314 : True := trivial
theorem PySem.W.Fast.tw16719829168320099721 : True := trivial
theorem PySem.W.Fast.tw12416294363818567180 : True := trivial
theorem PySem.W.Fast.tw12239248987469937589 : True := trivial
theorem PySem.W.Fast.tw17130921889502701351 : True := trivial
theorem PySem.W.Fast.tw4140980734642821785 : True := trivial
theorem PySem.W.Fast.tw13419669227598574557 : True := trivial
theorem PySem.W.Fast.tw6144701419819224917 : True := trivial
theorem PySem.W.Fast.tw7883540166412853634 : True := trivial
theorem PySem.W.Fast.tw15658814541712152948 : True := trivial
theorem PySem.W.Fast.tw856943727440467252 : True := trivial
theorem PySem.W.Fast.tw8280329569137444984 : True := trivial
theorem PySem.W.Fast.tw3858556738928886099 : True := trivial
theorem PySem.W.Fast.tw12948980418412418175 : True := trivial
theorem PySem.W.Fast.tw17580884559537628570 : True := trivial
theorem PySem.W.Fast.tw2935216802687859405 : True := trivial
theorem PySem.W.Fast.tw16271811901608864487 : True := trivial
theorem PySem.W.Fast.tw9219344294353760900 : True := trivial
theorem PySem.W.Fast.tw11532992457626638337 : True := trivial
theorem PySem.W.Fast.tw5807040161284793682 : True := trivial
theorem PySem.W.Fast.tw1486506562264146428 : True := trivial
theorem PySem.W.Fast.tw17870739872366670913 : True := trivial
theorem PySem.W.Fast.tw14891703337623508793 : True := trivial
theorem PySem.W.Fast.tw7866447264027622032 : True := trivial
theorem PySem.W.Fast.tw5008085802636920505 : True := trivial
theorem PySem.W.Fast.tw11499174828880783309 : True := trivial
theorem PySem.W.Fast.tw16004965592089566756 : True := trivial
theorem PySem.W.Fast.tw14551931500253603186 : True := trivial
theorem PySem.W.Fast.tw6876086456583148715 : True := trivial
theorem PySem.W.Fast.tw8871431678221232502 : True := trivial
theorem PySem.W.Fast.tw4212260099293142381 : True := trivial
theorem PySem.W.Fast.tw17123905626983939282 : True := trivial
theorem PySem.W.Fast.tw9439842301026994895 : True := trivial
theorem PySem.W.Fast.tw1876140683687706685 : True := trivial
theorem PySem.W.Fast.tw47713928812541006 : True := trivial
theorem PySem.W.Fast.tw12105391988446001755 : True := trivial
theorem PySem.W.Fast.tw8251751941867112652 : True := trivial
theorem PySem.W.Fast.tw101550118092206579 : True := trivial
theorem PySem.W.Fast.tw15303046240429478830 : True := trivial
theorem PySem.W.Fast.tw5609790562729645521 : True := trivial
theorem PySem.W.Fast.tw12239435193489555757 : True := trivial
theorem PySem.W.Fast.tw17057567778564155781 : True := trivial
theorem PySem.W.Fast.tw7954803651555686711 : True := trivial
theorem PySem.W.Fast.tw3126072732314968100 : True := trivial
theorem PySem.W.Fast.tw2636070917607160679 : True := trivial
theorem PySem.W.Fast.tw9056333213967569130 : True := trivial
theorem PySem.W.Fast.tw11746305379617459931 : True := trivial
theorem PySem.W.Fast.tw512614592715915512 : True := trivial
theorem PySem.W.Fast.tw912786147735872556 : True := trivial
theorem PySem.W.Fast.tw1812629900173900301 : True := trivial
theorem PySem.W.Fast.tw10617601429274508392 : True := trivial
theorem PySem.W.Fast.tw10680057243616560294 : True := trivial
theorem PySem.W.Fast.tw6202185684098025746 : True := trivial
theorem PySem.W.Fast.tw1444404774534419873 : True := trivial
theorem PySem.W.Fast.tw1828770388456314088 : True := trivial
theorem PySem.W.Fast.tw14577296564447572740 : True := trivial
theorem PySem.W.Fast.tw8162179651953401341 : True := trivial
theorem PySem.W.Fast.tw1256885543754308090 : True := trivial
theorem PySem.W.Fast.tw6010682616623384413 : True := trivial
theorem PySem.W.Fast.tw7240716473576206053 : True := trivial
theorem PySem.W.Fast.tw12586745111057043072 : True := trivial
theorem PySem.W.Fast.tw6743906983089967362 : True := trivial
theorem PySem.W.Fast.tw2141310121960665904 : True := trivial
theorem PySem.W.Fast.tw10788507609112592603 : True := trivial
theorem PySem.W.Fast.tw10334633961535688193 : True := trivial
theorem PySem.W.Fast.tw1693846023244996394 : True := trivial
theorem PySem.W.Fast.tw7296107723670735193 : True := trivial
theorem PySem.W.Fast.tw9055057570586453151 : True := trivial
theorem PySem.W.Fast.tw6206348225833891143 : True := trivial
theorem PySem.W.Fast.tw4738019488649918879 : True := trivial
theorem PySem.W.Fast.tw7428183550682835170 : True := trivial
theorem PySem.W.Fast.tw10288802328128731108 : True := trivial
theorem PySem.W.Fast.tw5559204862198943009 : True := trivial
theorem PySem.W.Fast.tw9029977411740099671 : True := trivial
theorem PySem.W.Fast.tw17980263362311641984 : True := trivial
theorem PySem.W.Fast.tw3996172961079131824 : True := trivial
theorem PySem.W.Fast.tw5611257860042988665 : True := trivial
theorem PySem.W.Fast.tw4332566259592327316 : True := trivial
theorem PySem.W.Fast.tw4270674852561438450 : True := trivial
theorem PySem.W.Fast.tw6481090435260449130 : True := trivial
theorem PySem.W.Fast.tw10348854742900984216 : True := trivial
theorem PySem.W.Fast.tw7466647016571977974 : True := trivial
theorem PySem.W.Fast.tw12738762676829942758 : True := trivial
theorem PySem.W.Fast.tw6108540593483361769 : True := trivial
theorem PySem.W.Fast.tw7886394267406391437 : True := trivial
theorem PySem.W.Fast.tw9680500809256662138 : True := trivial
theorem PySem.W.Fast.tw5763106502702376121 : True := trivial
theorem PySem.W.Fast.tw15358008971051234191 : True := trivial
theorem PySem.W.Fast.tw14323529079960960868 : True := trivial
theorem PySem.W.Fast.tw4732988622818636346 : True := trivial
theorem PySem.W.Fast.tw6243941834299041544 : True := trivial
theorem PySem.W.Fast.tw6109283187604705084 : True := trivial
theorem PySem.W.Fast.tw2121298431664717802 : True := trivial
theorem PySem.W.Fast.tw11196183416189184497 : True := trivial
theorem PySem.W.Fast.tw8015726026411890677 : True := trivial
theorem PySem.W.Fast.tw1633093885684355956 : True := trivial
theorem PySem.W.Fast.tw16030741543139853033 : True := trivial
theorem PySem.W.Fast.tw12448442324903775727 : True := trivial
theorem PySem.W.Fast.tw12558830071401810741 : True := trivial
theorem PySem.W.Fast.tw1118115070754090096 : True := trivial
theorem PySem.W.Fast.tw10252715665431262653 : True := trivial
theorem PySem.W.Fast.tw13522378130851057516 : True := trivial
theorem PySem.W.Fast.tw3250295710993074054 : True := trivial
theorem PySem.W.Fast.tw353597968340489554 : True := trivial
theorem PySem.W.Fast.tw7665635664347069631 : True := trivial
theorem PySem.W.Fast.tw17627043844690748288 : True := trivial
theorem PySem.W.Fast.tw8336574745051521069 : True := trivial
theorem PySem.W.Fast.tw17110332775804369175 : True := trivial
theorem PySem.W.Fast.tw5206970549211446052 : True := trivial
theorem PySem.W.Fast.tw3565635489124655324 : True := trivial
theorem PySem.W.Fast.tw10667737388194584228 : True := trivial
theorem PySem.W.Fast.tw881530755547110355 : True := trivial
theorem PySem.W.Fast.tw17581890679343963087 : True := trivial
open PySem PySem.W PyProof.Rows
set_option maxRecDepth 100000 in
set_option maxHeartbeats 0 in
theorem PySem.Challenge.cw_landsentered_k04_no_shapes_holds : PySem.Challenge.rw_landsentered_k04_no_shapes.Holds := by
 w_on; o_law; k_head; (case hw => w_witness2)
 k_fill
 refine My.walk (l := PySem.Challenge.rw_landsentered_k04_no_shapes) rfl rfl (fun w h Y => PySem.W.kIn_of Y) ?F
 case F =>
  intro w mg fa h KX G hmg
  refine' My.all_mk KX G hmg ?a0 ?l0 ?c0 ?k0 ?a1 ?l1 ?c1 ?k1 ?a2 ?l2 ?c2 ?k2 ?a3 ?l3 ?c3 ?k3 ?a4 ?l4 ?c4 ?k4 ?a5 ?l5 ?c5 ?k5 ?a6 ?l6 ?c6 ?k6 ?a7 ?l7 ?c7 ?k7 ?a8 ?l8 ?c8 ?k8 ?a9 ?l9 ?c9 ?k9 ?a10 ?l10 ?c10 ?k10 ?a11 ?l11 ?c11 ?k11 ?a12 ?l12 ?c12 ?k12 ?a13 ?l13 ?c13 ?k13 ?a14 ?l14 ?c14 ?k14 ?a15 ?l15 ?c15 ?k15 ?a16 ?l16 ?c16 ?k16 ?a17 ?l17 ?c17 ?k17 ?a18 ?l18 ?c18 ?k18 ?a19 ?l19 ?c19 ?k19 ?a20 ?l20 ?c20 ?k20 ?a21 ?l21 ?c21 ?k21 ?a22 ?l22 ?c22 ?k22 ?a23 ?l23 ?c23 ?k23 ?a24 ?l24 ?c24 ?k24 ?a25 ?l25 ?c25 ?k25 ?z0 ?z1 ?z2 ?z3 ?z4 ?z5 ?z6 ?z7 ?z8 ?z9 ?z10 ?z11 ?z12 ?u0 ?u1 ?cm_NoShape ?cm_LandError ?cm_Clash ?cm_NoLand ?cm_NoName ?cm_NoRow ?cm_NoTelling ?cm_NoText ?cm_NoTime ?cm_NoTurn ?cm_NoWatch ?cm_TooMany ?cx_NoShape ?ck_NoShape_0 ?ck_NoShape_1 ?ck_NoShape_2 ?ck_NoShape_3 ?ck_NoShape_4 ?ck_NoShape_5 ?ck_NoShape_6 ?ck_NoShape_7 ?cc_NoShape_LandError_0 ?cc_NoShape_LandError_1 ?cc_NoShape_LandError_2 ?cc_NoShape_LandError_3 ?cf_q1 ?cf_q2 ?cf_q3 ?cf_q4 ?cf_q5
  (case a0 => first | k_is | kit_is | decide +kernel)
  (case l0 => first | k_is | kit_is | decide +kernel)
  (case c0 => first | k_is | kit_is | decide +kernel)
  (case k0 => first | k_is | kit_is | decide +kernel)
  (case a1 => first | k_is | kit_is | decide +kernel)
  (case l1 => first | k_is | kit_is | decide +kernel)
  (case c1 => first | k_is | kit_is | decide +kernel)
  (case k1 => first | k_is | kit_is | decide +kernel)
  (case a2 => first | k_is | kit_is | decide +kernel)
  (case l2 => first | k_is | kit_is | decide +kernel)
  (case c2 => first | k_is | kit_is | decide +kernel)
  (case k2 => first | k_is | kit_is | decide +kernel)
  (case a3 => first | k_is | kit_is | decide +kernel)
  (case l3 => first | k_is | kit_is | decide +kernel)
  (case c3 => first | k_is | kit_is | decide +kernel)
  (case k3 => first | k_is | kit_is | decide +kernel)
  (case a4 => first | k_is | kit_is | decide +kernel)
  (case l4 => first | k_is | kit_is | decide +kernel)
  (case c4 => first | k_is | kit_is | decide +kernel)
  (case k4 => first | k_is | kit_is | decide +kernel)
  (case a5 => first | k_is | kit_is | decide +kernel)
  (case l5 => first | k_is | kit_is | decide +kernel)
  (case c5 => first | k_is | kit_is | decide +kernel)
  (case k5 => first | k_is | kit_is | decide +kernel)
  (case a6 => first | k_is | kit_is | decide +kernel)
  (case l6 => first | k_is | kit_is | decide +kernel)
  (case c6 => first | k_is | kit_is | decide +kernel)
  (case k6 => first | k_is | kit_is | decide +kernel)
  (case a7 => first | k_is | kit_is | decide +kernel)
  (case l7 => first | k_is | kit_is | decide +kernel)
  (case c7 => first | k_is | kit_is | decide +kernel)
  (case k7 => first | k_is | kit_is | decide +kernel)
  (case a8 => first | k_is | kit_is | decide +kernel)
  (case l8 => first | k_is | kit_is | decide +kernel)
  (case c8 => first | k_is | kit_is | decide +kernel)
  (case k8 => first | k_is | kit_is | decide +kernel)
  (case a9 => first | k_is | kit_is | decide +kernel)
  (case l9 => first | k_is | kit_is | decide +kernel)
  (case c9 => first | k_is | kit_is | decide +kernel)
  (case k9 => first | k_is | kit_is | decide +kernel)
  (case a10 => first | k_is | kit_is | decide +kernel)
  (case l10 => first | k_is | kit_is | decide +kernel)
  (case c10 => first | k_is | kit_is | decide +kernel)
  (case k10 => first | k_is | kit_is | decide +kernel)
  (case a11 => first | k_is | kit_is | decide +kernel)
  (case l11 => first | k_is | kit_is | decide +kernel)
  (case c11 => first | k_is | kit_is | decide +kernel)
  (case k11 => first | k_is | kit_is | decide +kernel)
  (case a12 => first | k_is | kit_is | decide +kernel)
  (case l12 => first | k_is | kit_is | decide +kernel)
  (case c12 => first | k_is | kit_is | decide +kernel)
  (case k12 => first | k_is | kit_is | decide +kernel)
  (case a13 => first | k_is | kit_is | decide +kernel)
  (case l13 => first | k_is | kit_is | decide +kernel)
  (case c13 => first | k_is | kit_is | decide +kernel)
  (case k13 => first | k_is | kit_is | decide +kernel)
  (case a14 => first | k_is | kit_is | decide +kernel)
  (case l14 => first | k_is | kit_is | decide +kernel)
  (case c14 => first | k_is | kit_is | decide +kernel)
  (case k14 => first | k_is | kit_is | decide +kernel)
  (case a15 => first | k_is | kit_is | decide +kernel)
  (case l15 => first | k_is | kit_is | decide +kernel)
  (case c15 => first | k_is | kit_is | decide +kernel)
  (case k15 => first | k_is | kit_is | decide +kernel)
  (case a16 => first | k_is | kit_is | decide +kernel)
  (case l16 => first | k_is | kit_is | decide +kernel)
  (case c16 => first | k_is | kit_is | decide +kernel)
  (case k16 => first | k_is | kit_is | decide +kernel)
  (case a17 => first | k_is | kit_is | decide +kernel)
  (case l17 => first | k_is | kit_is | decide +kernel)
  (case c17 => first | k_is | kit_is | decide +kernel)
  (case k17 => first | k_is | kit_is | decide +kernel)
  (case a18 => first | k_is | kit_is | decide +kernel)
  (case l18 => first | k_is | kit_is | decide +kernel)
  (case c18 => first | k_is | kit_is | decide +kernel)
  (case k18 => first | k_is | kit_is | decide +kernel)
  (case a19 => first | k_is | kit_is | decide +kernel)
  (case l19 => first | k_is | kit_is | decide +kernel)
  (case c19 => first | k_is | kit_is | decide +kernel)
  (case k19 => first | k_is | kit_is | decide +kernel)
  (case a20 => first | k_is | kit_is | decide +kernel)
  (case l20 => first | k_is | kit_is | decide +kernel)
  (case c20 => first | k_is | kit_is | decide +kernel)
  (case k20 => first | k_is | kit_is | decide +kernel)
  (case a21 => first | k_is | kit_is | decide +kernel)
  (case l21 => first | k_is | kit_is | decide +kernel)
  (case c21 => first | k_is | kit_is | decide +kernel)
  (case k21 => first | k_is | kit_is | decide +kernel)
  (case a22 => first | k_is | kit_is | decide +kernel)
  (case l22 => first | k_is | kit_is | decide +kernel)
  (case c22 => first | k_is | kit_is | decide +kernel)
  (case k22 => first | k_is | kit_is | decide +kernel)
  (case a23 => first | k_is | kit_is | decide +kernel)
  (case l23 => first | k_is | kit_is | decide +kernel)
  (case c23 => first | k_is | kit_is | decide +kernel)
  (case k23 => first | k_is | kit_is | decide +kernel)
  (case a24 => first | k_is | kit_is | decide +kernel)
  (case l24 => first | k_is | kit_is | decide +kernel)
  (case c24 => first | k_is | kit_is | decide +kernel)
  (case k24 => first | k_is | kit_is | decide +kernel)
  (case a25 => first | k_is | kit_is | decide +kernel)
  (case l25 => first | k_is | kit_is | decide +kernel)
  (case c25 => first | k_is | kit_is | decide +kernel)
  (case k25 => first | k_is | kit_is | decide +kernel)
  (case z0 => first | k_is | kit_is | decide +kernel)
  (case z1 => first | k_is | kit_is | decide +kernel)
  (case z2 => first | k_is | kit_is | decide +kernel)
  (case z3 => first | k_is | kit_is | decide +kernel)
  (case z4 => first | k_is | kit_is | decide +kernel)
  (case z5 => first | k_is | kit_is | decide +kernel)
  (case z6 => first | k_is | kit_is | decide +kernel)
  (case z7 => first | k_is | kit_is | decide +kernel)
  (case z8 => first | k_is | kit_is | decide +kernel)
  (case z9 => first | k_is | kit_is | decide +kernel)
  (case z10 => first | k_is | kit_is | decide +kernel)
  (case z11 => first | k_is | kit_is | decide +kernel)
  (case z12 => first | k_is | kit_is | decide +kernel)
  (case u0 => first | k_is | kit_is | decide +kernel)
  (case u1 => first | k_is | kit_is | decide +kernel)
  (case cm_NoShape => first | k_is | kit_is | decide +kernel)
  (case cm_LandError => first | k_is | kit_is | decide +kernel)
  (case cm_Clash => first | k_is | kit_is | decide +kernel)
  (case cm_NoLand => first | k_is | kit_is | decide +kernel)
  (case cm_NoName => first | k_is | kit_is | decide +kernel)
  (case cm_NoRow => first | k_is | kit_is | decide +kernel)
  (case cm_NoTelling => first | k_is | kit_is | decide +kernel)
  (case cm_NoText => first | k_is | kit_is | decide +kernel)
  (case cm_NoTime => first | k_is | kit_is | decide +kernel)
  (case cm_NoTurn => first | k_is | kit_is | decide +kernel)
  (case cm_NoWatch => first | k_is | kit_is | decide +kernel)
  (case cm_TooMany => first | k_is | kit_is | decide +kernel)
  (case cx_NoShape => k_exc)
  (case ck_NoShape_0 => first | k_is | kit_is | decide +kernel)
  (case ck_NoShape_1 => first | k_is | kit_is | decide +kernel)
  (case ck_NoShape_2 => first | k_is | kit_is | decide +kernel)
  (case ck_NoShape_3 => first | k_is | kit_is | decide +kernel)
  (case ck_NoShape_4 => first | k_is | kit_is | decide +kernel)
  (case ck_NoShape_5 => first | k_is | kit_is | decide +kernel)
  (case ck_NoShape_6 => first | k_is | kit_is | decide +kernel)
  (case ck_NoShape_7 => first | k_is | kit_is | decide +kernel)
  (case cc_NoShape_LandError_0 => first | k_is | kit_is | decide +kernel)
  (case cc_NoShape_LandError_1 => first | k_is | kit_is | decide +kernel)
  (case cc_NoShape_LandError_2 => first | k_is | kit_is | decide +kernel)
  (case cc_NoShape_LandError_3 => first | k_is | kit_is | decide +kernel)
  (case cf_q1 => kit_is)
  (case cf_q2 => kit_is)
  (case cf_q3 => kit_is)
  (case cf_q4 => kit_is)
  (case cf_q5 => kit_is)
