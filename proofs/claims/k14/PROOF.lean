import PyProof.Rows.All
import Wide.All
import OpenK.AllK
import Wide.FinOn
import Lean
import PyProof.EqAt
import PyProof.EqKinds
import PyProof.TupleCall
import PyProof.ReprRoads
import PyProof.EqLayable
import PyProof.NeData
import PyProof.Rows.TupDisplay
import PySem.Challenge.RW_landsentered_k14_shows_spoilt
set_option Elab.async false
set_option linter.all false
set_option maxRecDepth 100000
set_option compiler.extract_closed false
set_option bootstrap.genMatcherCode false
theorem zz0 (h : True := by first | exact .inl rfl | exact .inr rfl | assumption) : True := h
theorem zz1 (h : True := by decide) : True := h
theorem zz2 (h : True := by intro _; rfl) : True := h
theorem zz3 (h : True := by rfl) : True := h
theorem zz4 (h : True := by with_unfolding_all rfl) : True := h
theorem zz5 (h : True := by first | exact Or.inl rfl | exact Or.inr (Or.inl rfl) | exact Or.inr (Or.inr rfl)) : True := h
theorem zz6 (h : True := by first | exact Pz _ | rfl) : True := h
theorem zz7 (h : True := by intro _ _; rfl) : True := h
theorem zz8 (h : True := by first | exact Or.inl rfl | exact Or.inr rfl) : True := h
theorem zz9 (h : True := by decide +kernel) : True := h
namespace L2
open PySem PySem.Spec PyProof.Rows
noncomputable abbrev Key := Sum Int Str
noncomputable def DZ : Key → Value → Bool
 | .inl k, v => Value.isInt k v
 | .inr x, v => Value.isStrOf x v
noncomputable def ZfC (w : World) : Key → Int
 | .inl k => hashInt k
 | .inr x => hashStr w x
theorem ZZ : ∀ {k : Key} {v : Value}, DZ k v = true → (∃ i t, k = Sum.inl i ∧ v = Value.int i t) ∨ (∃ x t, k = Sum.inr x ∧ v = Value.str x t)
 | .inl i, v, h => by
  obtain ⟨t, e⟩ := Value.isInt_shape (k := i) (v := v) h
  exact .inl ⟨i, t, rfl, e⟩
 | .inr x, v, h => by
  obtain ⟨t, e⟩ := Value.isStrOf_shape (x := x) (v := v) h
  exact .inr ⟨x, t, rfl, e⟩
theorem Hw (i : Int) (t : Tok) : DZ (.inl i) (.int i t) = true := by simp [DZ, Value.isInt]
theorem Hg (x : Str) (t : Tok) : DZ (.inr x) (.str x t) = true := by simp [DZ, Value.isStrOf]
theorem ZbZ (a b : Int) : decide ((Sum.inl a : Key) = Sum.inl b) = (a == b) := by
 by_cases e : a = b
 ·subst e; simp
 ·have h : ¬ (Sum.inl a : Key) = Sum.inl b := fun q => e (Sum.inl.inj q)
  rw [decide_eq_false h]
  exact (beq_eq_false_iff_ne.mpr e).symm
theorem Zcl (a b : Str) : decide ((Sum.inr a : Key) = Sum.inr b) = decide (a = b) := by
 by_cases e : a = b
 ·subst e; simp
 ·have h : ¬ (Sum.inr a : Key) = Sum.inr b := fun q => e (Sum.inr.inj q)
  rw [decide_eq_false h, decide_eq_false e]
theorem ZbB (a : Int) (b : Str) : decide ((Sum.inl a : Key) = Sum.inr b) = false := decide_eq_false (fun q => nomatch q)
theorem ZaH (a : Str) (b : Int) : decide ((Sum.inr a : Key) = Sum.inl b) = false := decide_eq_false (fun q => nomatch q)
noncomputable def Qx (prog : Program) (w : World) : PySem.KeyKind prog w Key where
 is := DZ
 hash := ZfC w
 inj := fun v a b ha hb => by
  rcases ZZ ha with ⟨i, t, rfl, rfl⟩ | ⟨x, t, rfl, rfl⟩
  ·rcases ZZ hb with ⟨j, u, rfl, e⟩ | ⟨y, u, rfl, e⟩
   ·injection e with e1 _; rw [e1]
   ·exact nomatch e
  ·rcases ZZ hb with ⟨j, u, rfl, e⟩ | ⟨y, u, rfl, e⟩
   ·exact nomatch e
   ·injection e with e1 _; rw [e1]
 byValue := fun k v h => by
  rcases ZZ h with ⟨i, t, rfl, rfl⟩ | ⟨x, t, rfl, rfl⟩ <;> rfl
 pyHash := fun hv h => by
  rcases ZZ hv with ⟨i, t, rfl, rfl⟩ | ⟨x, t, rfl, rfl⟩
  ·exact wpAny_pyHash_int h
  ·exact wpAny_pyHash_str h
 eqBool := fun hu hv h => by
  rcases ZZ hu with ⟨i, t, rfl, rfl⟩ | ⟨x, t, rfl, rfl⟩
  ·rcases ZZ hv with ⟨j, u, rfl, rfl⟩ | ⟨y, u, rfl, rfl⟩
   ·rw [ZbZ] at h; exact wpAny_eqBool_int h
   ·rw [ZbB] at h; exact SeqAt.EqAt.int_str i t y u _ _ _ _ h
  ·rcases ZZ hv with ⟨j, u, rfl, rfl⟩ | ⟨y, u, rfl, rfl⟩
   ·rw [ZaH] at h; exact SeqAt.EqAt.str_int x t j u _ _ _ _ h
   ·rw [Zcl] at h; exact wpAny_eqBool_str h
 «strs» := fun k x t v h => by
  rcases ZZ h with ⟨i, u, rfl, e⟩ | ⟨y, u, rfl, e⟩
  ·exact nomatch e
  ·injection e with e1 _
   subst e1
   cases v <;> rfl
theorem B2 (prog : Program) (w : World) (i : Int) (t : Tok) : (Qx prog w).is (.inl i) (.int i t) = true := Hw i t
theorem G2 (prog : Program) (w : World) (x : Str) (t : Tok) : (Qx prog w).is (.inr x) (.str x t) = true := Hg x t
end L2
namespace L2
open PySem PySem.Spec PyProof.Rows
inductive V where
 | non | bl (b : Bool) | int (i : Int) | str (x : Str) | byt (b : Array UInt8) | flt (b : UInt64) | ref (a : Addr) | ty (n : String)
 deriving DecidableEq
noncomputable def RelV : V → Value → Prop
 | .non, u => u = Value.none
 | .bl b, u => u = Value.bool b
 | .int i, u => ∃ t, u = Value.int i t
 | .str x, u => ∃ t, u = Value.str x t
 | .byt b, u => ∃ t, u = Value.bytes b t
 | .flt b, u => ∃ t, u = Value.float b t
 | .ref a, u => u = Value.ref a
 | .ty n, u => u = Value.type n
noncomputable abbrev Vals : List V → List Value → Prop := Paired RelV
theorem Vals.length {xs : List V} {us : List Value} (r : Vals xs us) : xs.length = us.length := Paired.length r
theorem Vals.get : ∀ {xs : List V} {us : List Value} {i : Nat} {x : V}, Vals xs us → xs[i]? = some x → ∃ u, us[i]? = some u ∧ RelV x u
 | _, _, _, _, .nil, e => by simp at e
 | _, _, 0, _, .cons r _, e => by simp at e; subst e; exact ⟨_, rfl, r⟩
 | _, _, i + 1, x, .cons _ t, e => by
  obtain ⟨u, h1, h2⟩ := Vals.get (i := i) (x := x) t (by simpa using e)
  exact ⟨u, by simpa using h1, h2⟩
theorem Vals.set {x : V} {u : Value} (r : RelV x u) : ∀ {xs : List V} {us : List Value} (i : Nat), Vals xs us → Vals (xs.set i x) (us.set i u)
 | _, _, _, .nil => .nil
 | _, _, 0, .cons _ t => .cons r t
 | _, _, i + 1, .cons q t => .cons q (Vals.set r i t)
theorem Vals.append : ∀ {xs ys : List V} {us ws : List Value}, Vals xs us → Vals ys ws → Vals (xs ++ ys) (us ++ ws)
 | _, _, _, _, .nil, s => s
 | _, _, _, _, .cons r t, s => .cons r (Vals.append t s)
theorem Vals.take : ∀ {xs : List V} {us : List Value} (n : Nat), Vals xs us → Vals (xs.take n) (us.take n)
 | _, _, 0, _ => .nil
 | _, _, _ + 1, .nil => .nil
 | _, _, n + 1, .cons r t => .cons r (Vals.take n t)
theorem Vals.drop : ∀ {xs : List V} {us : List Value} (n : Nat), Vals xs us → Vals (xs.drop n) (us.drop n)
 | _, _, 0, r => r
 | _, _, _ + 1, .nil => .nil
 | _, _, n + 1, .cons _ t => Vals.drop n t
theorem Vals.none_of : ∀ {xs : List V} {us : List Value} {i : Nat}, Vals xs us → xs[i]? = none → us[i]? = none := fun {xs us i} r e => by
 have h1 := r.length
 have h2 : xs.length ≤ i := List.getElem?_eq_none_iff.mp e
 exact List.getElem?_eq_none_iff.mpr (by omega)
noncomputable def Zan : Option V → Option Value → Prop
 | some v, some u => RelV v u
 | none, none => True
 | _, _ => False
noncomputable def KV {κ : Type} : List (κ × V) → List (κ × Value) → Prop := Paired fun (p : κ × V) (q : κ × Value) => p.1 = q.1 ∧ RelV p.2 q.2
noncomputable def kV : Key → V
 | .inl i => .int i
 | .inr x => .str x
inductive HO where
  | lst (xs : List V)
  | tup (xs : List V)
  | dK (kvs : List (Key × V)) | dT (kvs : List (List Key × V))
  | set (S : Int → Bool) (n : Nat)
  | ins (C dx : Addr) (fs : List (Str × V))
  | own (x : Addr)
  | xd (fs : List (Str × V))
  | met (f x : Addr)
  | rng (lo hi : Int)
  | frz (o : Obj) (u : HO)
  | tbl (ps : Array Value)
  | ext (φ : Heap → Prop)
noncomputable abbrev Hp := Addr → Option HO
noncomputable def upd (H : Hp) (a : Addr) (o : HO) : Hp := fun b => if b = a then some o else H b
theorem Jx {H : Hp} {a : Addr} {o : HO} : upd H a o a = some o := by unfold upd; rw [if_pos rfl]
theorem ZW {H : Hp} {a b : Addr} {o : HO} (h : b ≠ a) : upd H a o b = H b := by unfold upd; rw [if_neg h]
theorem Zda {H : Hp} {a b : Addr} {o u : HO} (h : H a = some o) (h' : H b = some u) (d : o ≠ u) : a ≠ b := by
 intro e; subst e; rw [h] at h'; exact d (Option.some.inj h')
theorem ZJ {H : Hp} {a b : Addr} {o : HO} (h : H a = some o) (h' : H b = none) : a ≠ b := by
 intro e; subst e; rw [h] at h'; cases h'
section
variable (P : Program) (w : World)
noncomputable def Q5 (H : Hp) (h : Heap) (a : Addr) : HO → Prop
 | .lst xs => xs.length ≤ sizeLine ∧ ∃ (its : List Value) (n : Nat), Vals xs its ∧ h.get? a = some { cls := .type "list", data := .seq its.toArray n }
 | .tup xs => xs.length ≤ sizeLine ∧ ∃ its : List Value, Vals xs its ∧ IsTup h a its.toArray
 | .dK kvs => kvs.length ≤ sizeLine ∧ (a == sysModules) = false ∧ ∃ vs, KV kvs vs ∧ h.DictOf (Qx P w) a vs
 | .dT kvs => kvs.length ≤ sizeLine ∧ (a == sysModules) = false ∧ ∃ xs : List (List Key × Addr × Value),
   Paired (fun (p : List Key × V) (q : List Key × Addr × Value) => p.1 = q.1 ∧ H q.2.1 = some (.tup (p.1.map kV)) ∧ RelV p.2 q.2.2) kvs xs ∧
   ∃ o es ep, h.get? a = some o ∧ o.ExactDict ∧ o.data = .dict es ep ∧ es.toList = xs.map (entryOfKey (tupleKind (Qx P w))) ∧ (xs.map (·.1)).Nodup
 | .set S n => h.SetOf (intKind P w) a S n
 | .ins C dx fs => H dx = some (.own a) ∧ fs.length ≤ 1000 ∧ dx ≠ a ∧ h.get? a = some (PySem.W.instObj C dx) ∧
   ∃ mA, h.Ns1 dx mA ∧ (∀ f, Zan (fs.lookup f) (mA f)) ∧ PySem.Within mA (fs.map (·.1))
 | .own _ => ∃ o, h.get? a = some o
 | .xd fs => ∃ mA, h.Ns1 a mA ∧ ∀ f, Zan (fs.lookup f) (mA f)
 | .rng lo hi => ∃ t u v, h.get? a = some { cls := .type "range", data := .fields #[.int lo t, .int hi u, .int 1 v] }
 | .frz o u => h.get? a = some o ∧ Q5 H h a u
 | .tbl ps => h.get? a = some { cls := .none, data := .fields ps }
 | .met f x => h.get? a = some (PySem.W.methodObj (.ref f) (.ref x))
 | .ext φ => φ h ∧ (∃ o, h.get? a = some o) ∧ ∀ h1 h2 : Heap, φ h1 → (∀ o, h1.get? a = some o → h2.get? a = some o) → φ h2
noncomputable def HOk (H : Hp) (h : Heap) : Prop := ∀ a o, H a = some o → Q5 P w H h a o
end
section
variable {P : Program} {w : World} {H H' : Hp} {h h' : Heap} {a : Addr} {o : HO}
theorem Q5.lt (x : Q5 P w H h a o) : a < h.objs.size := by
 cases o with
 | lst xs => obtain ⟨_, _, _, _, e⟩ := x; exact Heap.lt_size e
 | tup xs => obtain ⟨_, _, _, p⟩ := x; exact p.lt
 | dK kvs => obtain ⟨_, _, _, _, o, _, _, e, _⟩ := x; exact Heap.lt_size e
 | dT kvs => obtain ⟨_, _, _, _, o, _, _, e, _⟩ := x; exact Heap.lt_size e
 | set S n => obtain ⟨o, _, _, _, e, _⟩ := x; exact Heap.lt_size e
 | ins C dx fs => obtain ⟨_, _, _, e, _⟩ := x; exact Heap.lt_size e
 | own y => obtain ⟨_, e⟩ := x; exact Heap.lt_size e
 | xd fs => obtain ⟨_, ⟨_, _, _, e, _⟩, _⟩ := x; exact Heap.lt_size e
 | rng lo hi => obtain ⟨_, _, _, e⟩ := x; exact Heap.lt_size e
 | frz ob u => obtain ⟨e, _⟩ := x; exact Heap.lt_size e
 | tbl ps => exact Heap.lt_size (show h.get? a = some _ from x)
 | met f y => exact Heap.lt_size (show h.get? a = some _ from x)
 | ext φ => obtain ⟨_, ⟨_, e⟩, _⟩ := x; exact Heap.lt_size e
theorem Paired.ZcV {α β : Type} {F G : α → β → Prop} : ∀ {l₁ : List α} {l₂ : List β}, Paired F l₁ l₂ → (∀ a b, F a b → G a b) → Paired G l₁ l₂
 | _, _, .nil, _ => .nil
 | _, _, .cons r t, f => .cons (f _ _ r) (Paired.ZcV t f)
theorem Q5.Tn (x : Q5 P w H h a o) (k : ∀ b u, (b = a ∨ H b = some (.own a)) → h.get? b = some u → h'.get? b = some u)
  (ho : ∀ b, H b = some (.own a) → H' b = some (.own a)) (ht : ∀ b xs, H b = some (.tup xs) → H' b = some (.tup xs)) : Q5 P w H' h' a o := by
 induction o with
 | lst xs => obtain ⟨z, its, n, r, e⟩ := x; exact ⟨z, its, n, r, k _ _ (.inl rfl) e⟩
 | tup xs => obtain ⟨z, its, r, ob, e, c⟩ := x; exact ⟨z, its, r, ob, k _ _ (.inl rfl) e, c⟩
 | dK kvs => obtain ⟨z, y, vs, r, ob, es, ep, e, c⟩ := x; exact ⟨z, y, vs, r, ob, es, ep, k _ _ (.inl rfl) e, c⟩
 | dT kvs =>
  obtain ⟨z, y, xs, r, ob, es, ep, e, c⟩ := x
  exact ⟨z, y, xs, Paired.ZcV r fun p q z => ⟨z.1, ht _ _ z.2.1, z.2.2⟩, ob, es, ep, k _ _ (.inl rfl) e, c⟩
 | set S n => obtain ⟨ob, es, ep, t, e, c⟩ := x; exact ⟨ob, es, ep, t, k _ _ (.inl rfl) e, c⟩
 | ins C dx fs =>
  obtain ⟨d, z, ne, e, mA, ⟨od, es, ep, e2, c⟩, r⟩ := x
  exact ⟨ho _ d, z, ne, k _ _ (.inl rfl) e, mA, ⟨od, es, ep, k _ _ (.inr d) e2, c⟩, r⟩
 | own y => obtain ⟨ob, e⟩ := x; exact ⟨ob, k _ _ (.inl rfl) e⟩
 | xd fs => obtain ⟨mA, ⟨od, es, ep, e, c⟩, r⟩ := x; exact ⟨mA, ⟨od, es, ep, k _ _ (.inl rfl) e, c⟩, r⟩
 | rng lo hi => obtain ⟨t, u, v, e⟩ := x; exact ⟨t, u, v, k _ _ (.inl rfl) e⟩
 | frz ob u ih => obtain ⟨e, q⟩ := x; exact ⟨k _ _ (.inl rfl) e, ih q⟩
 | tbl ps =>
  have e : h.get? a = some { cls := .none, data := .fields ps } := x
  show h'.get? a = some { cls := .none, data := .fields ps }
  exact k a _ (.inl rfl) e
 | met f y =>
  have e : h.get? a = some (PySem.W.methodObj (.ref f) (.ref y)) := x
  show h'.get? a = some (PySem.W.methodObj (.ref f) (.ref y))
  exact k a _ (.inl rfl) e
 | ext φ => obtain ⟨p, ⟨o, e⟩, st⟩ := x; exact ⟨st _ _ p fun o q => k _ _ (.inl rfl) q, ⟨o, k _ _ (.inl rfl) e⟩, st⟩
theorem HOk.lt (x : HOk P w H h) (e : H a = some o) : a < h.objs.size := (x a o e).lt
theorem HOk.fresh (x : HOk P w H h) (e : h.objs.size ≤ a) : H a = none := by
 cases q : H a with
 | none => rfl
 | some u => exact absurd (Nat.lt_of_lt_of_le (x.lt q) e) (Nat.lt_irrefl _)
theorem HOk.kept (x : HOk P w H h) (k : ∀ b u, h.get? b = some u → h'.get? b = some u) : HOk P w H h' := fun a o e =>
 (x a o e).Tn (fun b u _ q => k b u q) (fun _ q => q) fun _ _ q => q
theorem HOk.laid (x : HOk P w H h) (k : ∀ b u, h.get? b = some u → h'.get? b = some u) (hp : h.objs.size ≤ a) (new : Q5 P w (upd H a o) h' a o) : HOk P w (upd H a o) h' := fun b u e => by
 have hn := x.fresh hp
 by_cases hb : b = a
 ·subst hb; rw [Jx] at e; cases e; exact new
 ·rw [ZW hb] at e
  exact (x b u e).Tn (fun c v _ q => k c v q) (fun c q => by rw [ZW (ZJ q hn)]; exact q) fun c xs q => by rw [ZW (ZJ q hn)]; exact q
end
noncomputable def Rd (H : Hp) (a : Addr) (u : HO) : Prop := H a = some u ∨ ∃ o, H a = some (.frz o u)
theorem Rd.of {H : Hp} {a : Addr} {u : HO} (h : H a = some u) : Rd H a u := .inl h
theorem Rd.ok {P : Program} {w : World} {H : Hp} {h : Heap} {a : Addr} {u : HO} (r : Rd H a u) (x : HOk P w H h) : Q5 P w H h a u := by
 rcases r with r | ⟨o, r⟩
 ·exact x a u r
 ·obtain ⟨_, q⟩ := x a _ r
  exact q
noncomputable def Mut : Option HO → Prop
 | some (.lst _) => True
 | some (.dK _) => True
 | some (.dT _) => True
 | some (.set _ _) => True
 | some (.ins _ _ _) => True
 | some (.ext _) => True
 | _ => False
section
variable {P : Program} {w : World} {H : Hp} {h h' : Heap} {x e : Addr} {o' : HO}
theorem HOk.write (ok : HOk P w H h) (mu : Mut (H x)) (he : e = x ∨ H e = some (.own x)) (k : ∀ b u, b ≠ e → h.get? b = some u → h'.get? b = some u) (heo : ∃ u, h'.get? e = some u)
  (new : Q5 P w (upd H x o') h' x o') : HOk P w (upd H x o') h' := fun b u q => by
 have nown : ∀ c y, H c = some (.own y) → c ≠ x := fun c y r z => by subst z; rw [r] at mu; exact mu
 have ntup : ∀ c xs, H c = some (.tup xs) → c ≠ x := fun c xs r z => by subst z; rw [r] at mu; exact mu
 by_cases hb : b = x
 ·subst hb; rw [Jx] at q; cases q; exact new
 ·rw [ZW hb] at q
  by_cases hbe : b = e
  ·have q' : H b = some (.own x) := by
    rcases he with z | z
    ·exact absurd (hbe.trans z) hb
    ·rw [hbe]; exact z
   rw [q] at q'; cases q'
   obtain ⟨v, hv⟩ := heo
   exact ⟨v, by rw [hbe]; exact hv⟩
  ·refine (ok b u q).Tn (fun c v hc r => k c v ?_ r) (fun c r => by rw [ZW (nown c b r)]; exact r) fun c xs r => by rw [ZW (ntup c xs r)]; exact r
   rcases hc with rfl | hc
   ·exact hbe
   ·rintro rfl
    rcases he with z | z
    ·exact nown c b hc z
    ·rw [hc] at z; cases z; exact hb rfl
end
structure Un (fs ex : List Addr) (H H' : Hp) (h h' : Heap) : Prop where
 keep : ∀ b o, h.get? b = some o → H b = none → b ∉ fs → b ∉ ex → h'.get? b = some o
 slot : ∀ b o, h.get? b = some o → H b = none → b ∈ fs → b ∉ ex → ∃ sl, h'.get? b = some { o with slots := sl }
 free : ∀ b o, h.get? b = some o → H b = none → b ∉ ex → H' b = none
 there : ∀ b o, h.get? b = some o → b ∉ ex → ∃ o', h'.get? b = some o'
 tups : ∀ b xs, H b = some (.tup xs) → H' b = some (.tup xs)
 frzs : ∀ b o u, H b = some (.frz o u) → H' b = some (.frz o u)
 tbls : ∀ b ps, H b = some (.tbl ps) → ∃ more, H' b = some (.tbl (ps ++ more))
section
variable {fs fs' ex ex' : List Addr} {H H1 H2 : Hp} {h h1 h2 h' : Heap} {a x e : Addr} {o : HO}
theorem Un.any (u : Un fs ex H H1 h h1) {b : Addr} {ob : Obj} (q : h.get? b = some ob) (n : H b = none) (hx : b ∉ ex) : ∃ sl, h1.get? b = some { ob with slots := sl } := by
 by_cases hb : b ∈ fs
 ·exact u.slot b ob q n hb hx
 ·exact ⟨ob.slots, u.keep b ob q n hb hx⟩
theorem Un.trans (a : Un fs ex H H1 h h1) (b : Un fs ex H1 H2 h1 h2) : Un fs ex H H2 h h2 where
 keep := fun c ob q n hc hx => b.keep c ob (a.keep c ob q n hc hx) (a.free c ob q n hx) hc hx
 slot := fun c ob q n hc hx => by
  obtain ⟨sl, e1⟩ := a.slot c ob q n hc hx
  obtain ⟨sl', e2⟩ := b.slot c _ e1 (a.free c ob q n hx) hc hx
  exact ⟨sl', e2⟩
 free := fun c ob q n hx => by
  obtain ⟨o', e1⟩ := a.there c ob q hx
  exact b.free c o' e1 (a.free c ob q n hx) hx
 there := fun c ob q hx => by
  obtain ⟨o', e1⟩ := a.there c ob q hx
  exact b.there c o' e1 hx
 tups := fun c xs q => b.tups c xs (a.tups c xs q)
 frzs := fun c ob xs q => b.frzs c ob xs (a.frzs c ob xs q)
 tbls := fun c ps q => by
  obtain ⟨m1, e1⟩ := a.tbls c ps q
  obtain ⟨m2, e2⟩ := b.tbls c _ e1
  exact ⟨m1 ++ m2, by rw [e2, Array.append_assoc]⟩
theorem Un.kept (k : ∀ b u, h.get? b = some u → h'.get? b = some u) : Un fs ex H H h h' :=
 ⟨fun b ob q _ _ _ => k b ob q, fun b ob q _ _ _ => ⟨ob.slots, k b ob q⟩, fun _ _ _ n _ => n, fun b ob q _ => ⟨ob, k b ob q⟩, fun _ _ q => q, fun _ _ _ q => q, fun _ ps q => ⟨#[], by rw [q]; simp⟩⟩
theorem Un.refl : Un fs ex H H h h := Un.kept fun _ _ q => q
theorem Un.laid (k : ∀ b u, h.get? b = some u → h'.get? b = some u) (hp : h.objs.size ≤ a) (hn : H a = none) : Un fs ex H (upd H a o) h h' where
 keep := fun b u q _ _ _ => k b u q
 slot := fun b u q _ _ _ => ⟨u.slots, k b u q⟩
 free := fun b u q n _ => by rw [ZW (Nat.ne_of_lt (Nat.lt_of_lt_of_le (Heap.lt_size q) hp))]; exact n
 there := fun b u q _ => ⟨u, k b u q⟩
 tups := fun b xs q => by rw [ZW (ZJ q hn)]; exact q
 frzs := fun b u xs q => by rw [ZW (ZJ q hn)]; exact q
 tbls := fun b ps q => ⟨#[], by rw [ZW (ZJ q hn), q]; simp⟩
theorem Un.write (mu : Mut (H x)) (he : e = x ∨ H e = some (.own x)) (k : ∀ b u, b ≠ e → h.get? b = some u → h'.get? b = some u) (heo : ∃ u, h'.get? e = some u) : Un fs ex H (upd H x o) h h' := by
 have hx : ∀ b, H b = none → b ≠ x := fun b n z => by subst z; rw [n] at mu; exact mu
 have hb : ∀ b, H b = none → b ≠ e := fun b n z => by
  subst z
  rcases he with r | r
  ·exact hx b n r
  ·rw [n] at r; cases r
 have hm : ∀ b u, H b = some u → ¬ Mut (some u) → b ≠ x := fun b u q nm z => by subst z; rw [q] at mu; exact nm mu
 refine ⟨fun b u q n _ _ => k b u (hb b n) q, fun b u q n _ _ => ⟨u.slots, k b u (hb b n) q⟩, fun b u q n _ => by rw [ZW (hx b n)]; exact n, fun b u q _ => ?_,
  fun b xs q => by rw [ZW (hm b _ q fun z => z)]; exact q, fun b u xs q => by rw [ZW (hm b _ q fun z => z)]; exact q, fun b ps q => ⟨#[], by rw [ZW (hm b _ q fun z => z), q]; simp⟩⟩
 by_cases hbe : b = e
 ·subst hbe; exact heo
 ·exact ⟨u, k b u hbe q⟩
end
noncomputable def trk (h : Heap) (H : Hp) : List Addr := (List.range h.objs.size).filter fun a => (H a).isSome
noncomputable def LZ (h : Heap) (H : Hp) : Heap := PySem.W.hideAll h (trk h H)
theorem FE (h : Heap) (H : Hp) : (LZ h H).objs.size = h.objs.size := PySem.W.hideAll_size _ _
theorem NR {h : Heap} {H : Hp} {b : Addr} {o : Obj} (e : h.get? b = some o) (n : H b = none) : (LZ h H).get? b = some o :=
 PySem.W.hideAll_get _ e fun hm => by
  have q : (H b).isSome = true := (List.mem_filter.mp hm).2
  rw [n] at q; simp at q
theorem SD {h : Heap} {H : Hp} {b : Addr} {o : Obj} (e : (LZ h H).get? b = some o) : h.get? b = some o ∧ H b = none := by
 have e' : h.get? b = some o := PySem.W.of_hideAll (trk h H) e
 refine ⟨e', ?_⟩
 cases q : H b with
 | none => rfl
 | some x =>
  have hm : b ∈ trk h H := List.mem_filter.mpr ⟨List.mem_range.mpr (Heap.lt_size e'), by simp [q]⟩
  have z : (LZ h H).get? b = none := PySem.W.hideAll_none (trk h H) hm
  rw [z] at e; cases e
noncomputable def Ri (g h : Heap) (L : Addr) : List (Addr × Obj) := (List.range h.objs.size).filterMap fun a => if a = L ∨ (g.get? a).isSome = true then none else (h.get? a).map fun o => (a, o)
noncomputable def rest (g h : Heap) (L d : Addr) : List (Addr × Obj) := (Ri g h L).filter fun p => decide (p.1 ≠ d)
end L2
namespace L2
open PySem PySem.Spec PyProof.Rows
structure Mod (K : PySem.W.Frag) (mg : Str → Option Value) (base : Heap) : Prop where
 kin : K.In base
 glob : base.Ns mainGlobals mg
 blt : ∃ mb, base.Ns builtinsNs mb ∧ ∀ x : Str, x ≠ "__name__" → mb x = bootBuiltins x
 nolimit : base.NoLimit
structure Cx where
 prog : Program
 w : World
 K : PySem.W.Frag
 mg : Str → Option Value
 base : Heap
 A : Around
 N : List Str
 s₀ : Shared
 H₀ : Hp
 env : Env
 outer : List Env
 stack : List Env
 ex : List Addr
 fn : Str → Bool
 calm : Bool
 pn : List (Addr × Obj)
 xe : Value → Shared → Prop
noncomputable def frs (l : List Env) : List Addr := l.filterMap (·.frame)
noncomputable abbrev Cx.fs (X : Cx) : List Addr := frs X.outer
noncomputable def Vis (sc : Scope) (x : Str) : Prop := sc.names.lookup x = some .local ∨ sc.names.lookup x = some .cell ∨ sc.names.lookup x = some .free
noncomputable def Loc (sc : Scope) (x : Str) : Prop := sc.names.lookup x = some .local ∨ sc.names.lookup x = some .cell
noncomputable def Look (env : Env) (h : Heap) (m : Str → Option Value) (x : Str) (u : Value) : Prop :=
 (env.kindOf x = some .local ∧ m x = some u) ∨ ((env.kindOf x = some .cell ∨ env.kindOf x = some .free) ∧ ∃ c, env.cells.lookup x = some c ∧ h.IsCell c (some u))
structure Cx.Ok (X : Cx) : Prop where
 mod : Mod X.K X.mg X.base
 kind : X.env.scope.kind = .function
 glob : X.env.globals = mainGlobals
 blt : X.env.builtins = builtinsNs
 above : X.s₀.heap.objs.size ≤ X.env.locals
 inj : ∀ x y c, X.env.cells.lookup x = some c → X.env.cells.lookup y = some c → x = y
 has : ∀ x, (X.env.kindOf x = some .cell ∨ X.env.kindOf x = some .free) → ∃ c, X.env.cells.lookup x = some c
 cab : ∀ x c, X.fn x = true → X.env.cells.lookup x = some c → X.s₀.heap.objs.size ≤ c
 hd : X.calm = true → X.A.handled = none
 frames : X.A.frames = some X.stack
 stk : X.stack = X.outer ∨ (X.stack = X.env :: X.outer ∧ X.env.frame = some X.env.locals)
 exf : ∀ b ∈ X.ex, b ≠ X.env.locals ∧ ∀ x c, X.env.cells.lookup x = some c → c ≠ b
 bs : ∀ b o, X.base.get? b = some o → X.s₀.heap.get? b = some o ∧ X.H₀ b = none
 bsz : X.base.objs.size ≤ X.s₀.heap.objs.size
 noex : ∀ b o, X.base.get? b = some o → b ∉ X.ex
 exfs : ∀ b ∈ X.ex, b ∉ X.fs
 LC : X.s₀.heap.FunFrames X.base X.outer
 frf : ∀ b ∈ X.fs, X.H₀ b = none
structure Inv (X : Cx) (pins : List (Addr × Obj)) (σ : List (Option V)) (H : Hp) (s : Shared) : Prop where
 ok : X.Ok
 os : s.os = X.s₀.os
 bare : AllBare s.gens
 base : Un X.fs X.ex X.H₀ H X.s₀.heap s.heap
 loc : ∃ m, s.heap.Ns X.env.locals m ∧ ∀ (i : Nat) (x : Str) (v : V), X.N[i]? = some x → σ[i]? = some (some v) → Vis X.env.scope x → ∃ u, RelV v u ∧ Look X.env s.heap m x u
 cell : ∀ x c, X.env.cells.lookup x = some c → ∃ v, s.heap.IsCell c v
 free : H X.env.locals = none
 freeC : ∀ x c, X.env.cells.lookup x = some c → H c = none
 pin : ∀ p ∈ X.pn ++ pins, s.heap.get? p.1 = some p.2 ∧ H p.1 = none ∧ p.1 ≠ X.env.locals ∧ p.1 ∉ X.fs ∧ ∀ v, p.2.data ≠ .cell v
 hok : HOk X.prog X.w H s.heap
 len : σ.length = X.N.length
section
variable {X : Cx} {pins : List (Addr × Obj)} {σ : List (Option V)} {H H' : Hp} {s : Shared} {h' : Heap}
theorem Cx.Ok.Zfx (ok : X.Ok) {b : Addr} {o : Obj} (e : X.base.get? b = some o) : b ∉ X.fs := fun hb => by
 have := (ok.LC.mem hb).1
 rw [e] at this; cases this
theorem Inv.bs (I : Inv X pins σ H s) : ∀ b o, X.base.get? b = some o → s.heap.get? b = some o ∧ H b = none := fun b o e =>
 ⟨I.base.keep b o (I.ok.bs b o e).1 (I.ok.bs b o e).2 (I.ok.Zfx e) (I.ok.noex b o e), I.base.free b o (I.ok.bs b o e).1 (I.ok.bs b o e).2 (I.ok.noex b o e)⟩
theorem Inv.bk (I : Inv X pins σ H s) : ∀ b o, X.base.get? b = some o → s.heap.get? b = some o := fun b o e => (I.bs b o e).1
theorem Inv.mod (I : Inv X pins σ H s) : Mod X.K X.mg X.base := I.ok.mod
theorem Inv.kIn (I : Inv X pins σ H s) : X.K.In s.heap := I.ok.mod.kin.keeps I.bk
theorem Inv.fr (I : Inv X pins σ H s) : ∃ m, Fr X.base X.env.locals s.heap m :=
 let ⟨m, hn, _⟩ := I.loc
 ⟨m, hn, I.bk, Nat.le_trans I.ok.bsz I.ok.above⟩
theorem Inv.lt (I : Inv X pins σ H s) : X.env.locals < s.heap.objs.size := let ⟨_, hn, _⟩ := I.loc; hn.lt
theorem Inv.sz (I : Inv X pins σ H s) : X.s₀.heap.objs.size ≤ s.heap.objs.size := Nat.le_trans I.ok.above (Nat.le_of_lt I.lt)
theorem Inv.Zfp (I : Inv X pins σ H s) {a : Addr} (h : s.heap.objs.size ≤ a) : a ∉ X.fs := fun hb => by
 obtain ⟨_, o, ho, _⟩ := I.ok.LC.mem hb
 exact absurd (Nat.lt_of_lt_of_le (Heap.lt_size ho) (Nat.le_trans I.sz h)) (Nat.lt_irrefl _)
theorem Inv.cne (I : Inv X pins σ H s) : ∀ x c, X.env.cells.lookup x = some c → c ≠ X.env.locals := fun x c e z => by
 obtain ⟨v, o, ho, hd⟩ := I.cell x c e
 obtain ⟨m, ⟨o', es, ep, ho', hd', _⟩, _⟩ := I.loc
 rw [z, ho'] at ho; cases ho; rw [hd'] at hd; cases hd
theorem Inv.LC (I : Inv X pins σ H s) : s.heap.FunFrames X.base X.outer := by
 have all : ∀ (l : List Env), (∀ b ∈ frs l, b ∈ X.fs) → X.s₀.heap.FunFrames X.base l → s.heap.FunFrames X.base l := by
  intro l
  induction l with
  | nil => intro _ _; trivial
  | cons env r ih =>
   intro hs hl
   obtain ⟨hk, ⟨L, o, hf, hn, ho, hd⟩, hr⟩ := hl
   have hL : L ∈ X.fs := hs L (by unfold frs; rw [List.filterMap_cons, hf]; exact List.mem_cons_self)
   obtain ⟨sl, e⟩ := I.base.slot L o ho (I.ok.frf L hL) hL fun z => I.ok.exfs L z hL
   exact ⟨hk, ⟨L, _, hf, hn, e, hd⟩, ih (fun b hb => hs b (by unfold frs; rw [List.filterMap_cons, hf]; exact List.mem_cons_of_mem _ hb)) hr⟩
 exact all X.outer (fun _ hb => hb) I.ok.LC
theorem Inv.stack (I : Inv X pins σ H s) : s.heap.FunFrames X.base X.stack := by
 rcases I.ok.stk with e | ⟨e, hf⟩
 ·rw [e]; exact I.LC
 ·rw [e]
  obtain ⟨m, hn, _⟩ := I.loc
  refine .cons (by rw [I.ok.kind]; decide) hf hn ?_ I.LC
  exact Heap.get?_none_of_le (Nat.le_trans I.ok.bsz I.ok.above)
theorem Inv.FH (I : Inv X pins σ H s) : ∀ b ∈ frs X.stack, b ∈ X.env.locals :: X.fs := fun b hb => by
 rcases I.ok.stk with e | ⟨e, hf⟩
 ·rw [e] at hb; exact List.mem_cons_of_mem _ hb
 ·rw [e] at hb
  unfold frs at hb
  rw [List.filterMap_cons, hf] at hb
  exact hb
theorem Inv.Ld (I : Inv X pins σ H s) : ∀ b ∈ frs X.stack, H b = none := fun b hb => by
 rcases List.mem_cons.mp (I.FH b hb) with e | hb
 ·rw [e]; exact I.free
 ·obtain ⟨_, o, ho, _⟩ := I.ok.LC.mem hb
  exact I.base.free b o ho (I.ok.frf b hb) fun z => I.ok.exfs b z hb
theorem Inv.step {g' : Array GenState} {t' : Nat} {d' : Drawn} {ch : List Addr} (I : Inv X pins σ H s)
  (hch : ∀ b ∈ ch, (b ∈ X.ex ∨ X.s₀.heap.objs.size ≤ b) ∧ b ≠ X.env.locals ∧ (∀ x c, X.env.cells.lookup x = some c → c ≠ b) ∧ ∀ p ∈ X.pn ++ pins, p.1 ≠ b)
  (keep : ∀ b o, b ≠ X.env.locals → b ∉ X.fs → b ∉ ch → s.heap.get? b = some o → H b = none → h'.get? b = some o)
  (slot : ∀ b o, b ≠ X.env.locals → b ∈ X.fs → b ∉ ch → s.heap.get? b = some o → H b = none → ∃ sl, h'.get? b = some { o with slots := sl }) (free : ∀ b o, b ∉ ch → s.heap.get? b = some o → H b = none → H' b = none)
  (there : ∀ b o, b ∉ ch → s.heap.get? b = some o → ∃ o', h'.get? b = some o')
  (tups : ∀ b xs, H b = some (.tup xs) → H' b = some (.tup xs)) (frzs : ∀ b o u, H b = some (.frz o u) → H' b = some (.frz o u)) (tbls : ∀ b ps, H b = some (.tbl ps) → ∃ more, H' b = some (.tbl (ps ++ more)))
  (ns : ∀ m, s.heap.Ns X.env.locals m → h'.Ns X.env.locals m) (hok : HOk X.prog X.w H' h') (hg : AllBare g') :
  Inv X pins σ H' { s with heap := h', gens := g', drawn := d', toks := t' } := by
 have neL : ∀ b o, X.s₀.heap.get? b = some o → b ≠ X.env.locals := fun b o e => Nat.ne_of_lt (Nat.lt_of_lt_of_le (Heap.lt_size e) I.ok.above)
 have neC : ∀ b o, X.s₀.heap.get? b = some o → b ∉ X.ex → b ∉ ch := fun b o e hx hb => by
  rcases (hch b hb).1 with z | z
  ·exact hx z
  ·exact absurd (Nat.lt_of_lt_of_le (Heap.lt_size e) z) (Nat.lt_irrefl _)
 have cellK : ∀ x c, X.env.cells.lookup x = some c → ∀ v, s.heap.IsCell c v → h'.IsCell c v := fun x c e v ⟨o, ho, hd⟩ => by
  have nch : c ∉ ch := fun z => (hch c z).2.2.1 x c e rfl
  by_cases hc : c ∈ X.fs
  ·obtain ⟨sl, q⟩ := slot c o (I.cne x c e) hc nch ho (I.freeC x c e)
   exact ⟨_, q, hd⟩
  ·exact ⟨o, keep c o (I.cne x c e) hc nch ho (I.freeC x c e), hd⟩
 refine ⟨I.ok, I.os, hg, ⟨fun b o e n hb hx => ?_, fun b o e n hb hx => ?_, fun b o e n hx => ?_, fun b o e hx => ?_, fun b xs e => tups b xs (I.base.tups b xs e), fun b o xs e => frzs b o xs (I.base.frzs b o xs e), fun b ps e => ?_⟩, ?_, fun x c e => ?_, ?_, fun x c e => ?_, fun p hp => ?_, hok, I.len⟩
 ·exact keep b o (neL b o e) hb (neC b o e hx) (I.base.keep b o e n hb hx) (I.base.free b o e n hx)
 ·obtain ⟨sl, e1⟩ := I.base.slot b o e n hb hx
  obtain ⟨sl', e2⟩ := slot b _ (neL b o e) hb (neC b o e hx) e1 (I.base.free b o e n hx)
  exact ⟨sl', e2⟩
 ·obtain ⟨o', e1⟩ := I.base.there b o e hx
  exact free b o' (neC b o e hx) e1 (I.base.free b o e n hx)
 ·obtain ⟨o', e1⟩ := I.base.there b o e hx
  exact there b o' (neC b o e hx) e1
 ·obtain ⟨m1, e1⟩ := I.base.tbls b ps e
  obtain ⟨m2, e2⟩ := tbls b _ e1
  exact ⟨m1 ++ m2, by rw [e2, Array.append_assoc]⟩
 ·obtain ⟨m, hn, hl⟩ := I.loc
  refine ⟨m, ns m hn, fun i x v e1 e2 e3 => ?_⟩
  obtain ⟨u, r, l⟩ := hl i x v e1 e2 e3
  refine ⟨u, r, ?_⟩
  rcases l with l | ⟨k, c, e, z⟩
  ·exact .inl l
  ·exact .inr ⟨k, c, e, cellK x c e _ z⟩
 ·obtain ⟨v, z⟩ := I.cell x c e
  exact ⟨v, cellK x c e v z⟩
 ·obtain ⟨m, ⟨o, _, _, ho, _⟩, _⟩ := I.loc
  exact free _ o (fun z => (hch _ z).2.1 rfl) ho I.free
 ·obtain ⟨v, o, ho, hd⟩ := I.cell x c e
  exact free c o (fun z => (hch c z).2.2.1 x c e rfl) ho (I.freeC x c e)
 ·obtain ⟨e, n, ne, nf, d⟩ := I.pin p hp
  have nch : p.1 ∉ ch := fun z => (hch p.1 z).2.2.2 p hp rfl
  exact ⟨keep p.1 p.2 ne nf nch e n, free p.1 p.2 nch e n, ne, nf, d⟩
theorem Inv.un {t' : Nat} (I : Inv X pins σ H s) (u : Un X.fs [] H H' s.heap h') (hok : HOk X.prog X.w H' h') : Inv X pins σ H' { s with heap := h', toks := t' } := by
 obtain ⟨m, ⟨o, es, ep, ho, r⟩, _⟩ := id I.loc
 obtain ⟨sl, hL⟩ := u.any ho I.free (by simp)
 exact I.step (g' := s.gens) (d' := s.drawn) (ch := []) (fun _ z => nomatch z) (fun b o _ hb _ e n => u.keep b o e n hb (by simp)) (fun b o _ hb _ e n => u.slot b o e n hb (by simp)) (fun b o _ e n => u.free b o e n (by simp)) (fun b o _ e => u.there b o e (by simp)) u.tups u.frzs u.tbls (fun m' hm => by
  obtain ⟨o', es', ep', ho', r'⟩ := hm
  rw [ho] at ho'; cases ho'
  exact ⟨_, es', ep', hL, r'⟩) hok I.bare
theorem Inv.call {g' : Array GenState} {t' : Nat} {d' : Drawn} {ch : List Addr} (I : Inv X pins σ H s) (u : Un (frs X.stack) ch H H' s.heap h') (hok : HOk X.prog X.w H' h') (hg : AllBare g')
  (hch : ∀ b ∈ ch, (b ∈ X.ex ∨ X.s₀.heap.objs.size ≤ b) ∧ b ≠ X.env.locals ∧ (∀ x c, X.env.cells.lookup x = some c → c ≠ b) ∧ ∀ p ∈ X.pn ++ pins, p.1 ≠ b) :
  Inv X pins σ H' { s with heap := h', gens := g', drawn := d', toks := t' } := by
 obtain ⟨m, ⟨o, es, ep, ho, r⟩, _⟩ := id I.loc
 obtain ⟨sl, hL⟩ := u.any ho I.free fun z => (hch _ z).2.1 rfl
 exact I.step (ch := ch) hch (fun b o hL hb hc e n => u.keep b o e n (fun z => (List.mem_cons.mp (I.FH b z)).elim hL hb) hc) (fun b o _ _ hc e n => u.any e n hc) (fun b o hc e n => u.free b o e n hc) (fun b o hc e => u.there b o e hc) u.tups u.frzs u.tbls (fun m' hm => by
  obtain ⟨o', es', ep', ho', r'⟩ := hm
  rw [ho] at ho'; cases ho'
  exact ⟨_, es', ep', hL, r'⟩) hok hg
theorem Inv.turned {t' : Nat} {it : Addr} (I : Inv X pins σ H s) (k : ∀ b o, b ≠ it → s.heap.get? b = some o → h'.get? b = some o) (hn : H it = none) (hL : it ≠ X.env.locals)
  (h1 : it ∈ X.ex ∨ X.s₀.heap.objs.size ≤ it) (h2 : ∀ x c, X.env.cells.lookup x = some c → c ≠ it) (h3 : ∀ p ∈ X.pn ++ pins, p.1 ≠ it) : Inv X pins σ H { s with heap := h', toks := t' } := by
 have nit : ∀ b u, H b = some u → b ≠ it := fun b u e z => by rw [z, hn] at e; cases e
 refine I.step (g' := s.gens) (d' := s.drawn) (ch := [it]) (fun b hb => ?_) (fun b o _ _ hc e _ => k b o (fun z => hc (by simp [z])) e) (fun b o _ _ hc e _ => ⟨o.slots, k b o (fun z => hc (by simp [z])) e⟩) (fun _ _ _ _ n => n)
  (fun b o hc e => ⟨o, k b o (fun z => hc (by simp [z])) e⟩) (fun _ _ e => e) (fun _ _ _ e => e) (fun b ps e => ⟨#[], by rw [e]; simp⟩) (fun m hm => ?_) (fun b u e => ?_) I.bare
 ·have e : b = it := by simpa using hb
  subst e
  exact ⟨h1, hL, h2, h3⟩
 ·obtain ⟨o, es, ep, ho, r⟩ := hm
  exact ⟨o, es, ep, k _ o (Ne.symm hL) ho, r⟩
 ·refine (I.hok b u e).Tn (fun c v hc q => k c v ?_ q) (fun _ q => q) fun _ _ q => q
  rcases hc with z | z
  ·rw [z]; exact nit b u e
  ·exact nit c _ z
theorem Inv.tok (I : Inv X pins σ H s) (t : Nat) : Inv X pins σ H { s with toks := t } := I.un (h' := s.heap) (t' := t) Un.refl I.hok
theorem Inv.kept {t' : Nat} (I : Inv X pins σ H s) (k : ∀ b u, s.heap.get? b = some u → h'.get? b = some u) : Inv X pins σ H { s with heap := h', toks := t' } := I.un (Un.kept k) (I.hok.kept k)
theorem Inv.laid {a : Addr} {o : HO} {t' : Nat} (I : Inv X pins σ H s) (k : ∀ b u, s.heap.get? b = some u → h'.get? b = some u) (hp : s.heap.objs.size ≤ a) (new : Q5 X.prog X.w (upd H a o) h' a o) :
  Inv X pins σ (upd H a o) { s with heap := h', toks := t' } := I.un (Un.laid k hp (I.hok.fresh hp)) (I.hok.laid k hp new)
theorem Inv.write {x e : Addr} {o : HO} {t' : Nat} (I : Inv X pins σ H s) (mu : Mut (H x)) (he : e = x ∨ H e = some (.own x)) (k : ∀ b u, b ≠ e → s.heap.get? b = some u → h'.get? b = some u) (heo : ∃ u, h'.get? e = some u)
  (new : Q5 X.prog X.w (upd H x o) h' x o) : Inv X pins σ (upd H x o) { s with heap := h', toks := t' } := I.un (Un.write mu he k heo) (I.hok.write mu he k heo new)
theorem Inv.KZ {pins' : List (Addr × Obj)} (I : Inv X pins σ H s) (h : ∀ p ∈ pins', s.heap.get? p.1 = some p.2 ∧ H p.1 = none ∧ p.1 ≠ X.env.locals ∧ p.1 ∉ X.fs ∧ ∀ v, p.2.data ≠ .cell v) : Inv X pins' σ H s :=
 ⟨I.ok, I.os, I.bare, I.base, I.loc, I.cell, I.free, I.freeC, fun p hp => (List.mem_append.mp hp).elim (fun z => I.pin p (List.mem_append_left _ z)) (h p), I.hok, I.len⟩
theorem CQ {N : List Str} (hN : N.Nodup) {i j : Nat} {x : Str} (a : N[i]? = some x) (b : N[j]? = some x) : i = j := by
 obtain ⟨h1, e1⟩ := List.getElem?_eq_some_iff.mp a
 obtain ⟨h2, e2⟩ := List.getElem?_eq_some_iff.mp b
 exact (List.getElem_inj hN).mp (e1.trans e2.symm)
theorem Lo {M : Model} {A : Around} {E : Value → Shared → Prop} {i : Nat} {x : Str} {v : V} {u : Value} {Q : Unit → Shared → Prop} (I : Inv X pins σ H s) (hN : X.N.Nodup) (hi : X.N[i]? = some x) (hx : Loc X.env.scope x) (r : RelV v u)
  (h : ∀ s', Inv X pins (σ.set i (some v)) H s' → (∃ a, Heap.SameBut a s.heap s'.heap ∧ (a = X.env.locals ∨ X.env.cells.lookup x = some a)) → Q () s') (hf : autoParam (X.fn x = true ∨ X.env.scope.names.lookup x = some .local) zz0._auto_1) : wpAny M A (storeName X.env x u) Q E s := by
 obtain ⟨m, hn, hl⟩ := id I.loc
 have hcls : (X.env.scope.kind == .class || (X.env.scope.kind == .module && X.env.locals != X.env.globals)) = false := by rw [I.ok.kind]; rfl
 have hiσ : i < σ.length := by rw [I.len]; exact (List.getElem?_eq_some_iff.mp hi).1
 have cne := I.cne
 have tracked : ∀ {a : Addr} {h' : Heap}, (∃ o, s.heap.get? a = some o ∧ H a = none) → Heap.SameBut a s.heap h' → HOk X.prog X.w H h' := fun {a h'} ha hs b ob e => by
  obtain ⟨_, _, hfree⟩ := ha
  refine (I.hok b ob e).Tn (fun c w' hc q => (hs.2 c ?_).trans q) (fun _ q => q) fun _ _ q => q
  rintro rfl
  rcases hc with rfl | hc
  ·rw [hfree] at e; cases e
  ·rw [hfree] at hc; cases hc
 rcases hx with hk | hk
 ·refine wpAny_storeName_local hk hn (fun h' hn' hs => ?_) hcls
  obtain ⟨oL, _, _, hoL, _⟩ := id hn
  refine h _ ⟨I.ok, I.os, I.bare, ⟨fun b o e n hb hx => ?_, fun b o e n hb hx => ?_, I.base.free, fun b o e hx => ?_, I.base.tups, I.base.frzs, I.base.tbls⟩, ⟨_, hn', fun j y v' e1 e2 e3 => ?_⟩, fun y c e => ?_, I.free, I.freeC, fun p hp => ?_, tracked ⟨oL, hoL, I.free⟩ hs, by simpa using I.len⟩ ⟨_, hs, .inl rfl⟩
  ·exact (hs.2 b (Nat.ne_of_lt (Nat.lt_of_lt_of_le (Heap.lt_size e) I.ok.above))).trans (I.base.keep b o e n hb hx)
  ·obtain ⟨sl, e1⟩ := I.base.slot b o e n hb hx
   exact ⟨sl, (hs.2 b (Nat.ne_of_lt (Nat.lt_of_lt_of_le (Heap.lt_size e) I.ok.above))).trans e1⟩
  ·obtain ⟨o', e1⟩ := I.base.there b o e hx
   exact ⟨o', (hs.2 b (Nat.ne_of_lt (Nat.lt_of_lt_of_le (Heap.lt_size e) I.ok.above))).trans e1⟩
  ·by_cases hj : j = i
   ·subst hj
    rw [hi] at e1; cases e1
    rw [List.getElem?_set_self hiσ] at e2
    cases e2
    exact ⟨u, r, .inl ⟨hk, by simp⟩⟩
   ·rw [List.getElem?_set_ne (Ne.symm hj)] at e2
    obtain ⟨u', r', q⟩ := hl j y v' e1 e2 e3
    refine ⟨u', r', ?_⟩
    rcases q with ⟨k, e⟩ | ⟨k, c, e, z⟩
    ·refine .inl ⟨k, ?_⟩
     have : y ≠ x := fun e => hj (CQ hN e1 (e ▸ hi))
     simp [this, e]
    ·exact .inr ⟨k, c, e, z.sameBut hs (cne y c e)⟩
  ·obtain ⟨w', z⟩ := I.cell y c e
   exact ⟨w', z.sameBut hs (cne y c e)⟩
  ·obtain ⟨e, n, ne, nf, d⟩ := I.pin p hp
   exact ⟨(hs.2 p.1 ne).trans e, n, ne, nf, d⟩
 ·have hfn : X.fn x = true := by
   rcases hf with z | z
   ·exact z
   ·rw [z] at hk; cases hk
  obtain ⟨c, hc⟩ := I.ok.has x (.inl hk)
  obtain ⟨w', z⟩ := I.cell x c hc
  refine wpAny_storeName_cell I.ok.kind hk hc z (fun h' hc' hs => ?_)
  obtain ⟨oc, hoc, hocd⟩ := id z
  refine h { s with heap := h' } ⟨I.ok, I.os, I.bare, ⟨fun b o e n hb hx => ?_, fun b o e n hb hx => ?_, I.base.free, fun b o e hx => ?_, I.base.tups, I.base.frzs, I.base.tbls⟩, ⟨m, hn.sameBut hs (Ne.symm (cne x c hc)), fun j y v' e1 e2 e3 => ?_⟩, fun y c' e => ?_, I.free, I.freeC, fun p hp => ?_, tracked ⟨oc, hoc, I.freeC x c hc⟩ hs, by simpa using I.len⟩ ⟨c, hs, .inr hc⟩
  ·exact (hs.2 b (Nat.ne_of_lt (Nat.lt_of_lt_of_le (Heap.lt_size e) (I.ok.cab x c hfn hc)))).trans (I.base.keep b o e n hb hx)
  ·obtain ⟨sl, e1⟩ := I.base.slot b o e n hb hx
   exact ⟨sl, (hs.2 b (Nat.ne_of_lt (Nat.lt_of_lt_of_le (Heap.lt_size e) (I.ok.cab x c hfn hc)))).trans e1⟩
  ·obtain ⟨o', e1⟩ := I.base.there b o e hx
   exact ⟨o', (hs.2 b (Nat.ne_of_lt (Nat.lt_of_lt_of_le (Heap.lt_size e) (I.ok.cab x c hfn hc)))).trans e1⟩
  ·by_cases hj : j = i
   ·subst hj
    rw [hi] at e1; cases e1
    rw [List.getElem?_set_self hiσ] at e2
    cases e2
    exact ⟨u, r, .inr ⟨.inl hk, c, hc, hc'⟩⟩
   ·rw [List.getElem?_set_ne (Ne.symm hj)] at e2
    obtain ⟨u', r', q⟩ := hl j y v' e1 e2 e3
    refine ⟨u', r', ?_⟩
    rcases q with q | ⟨k, c', e, z'⟩
    ·exact .inl q
    ·refine .inr ⟨k, c', e, z'.sameBut hs ?_⟩
     rintro rfl
     exact hj (CQ hN e1 (I.ok.inj _ _ _ e hc ▸ hi))
  ·by_cases hcc : c' = c
   ·subst hcc; exact ⟨_, hc'⟩
   ·obtain ⟨w2, z2⟩ := I.cell y c' e
    exact ⟨w2, z2.sameBut hs hcc⟩
  ·obtain ⟨e, n, ne, nf, d⟩ := I.pin p hp
   refine ⟨(hs.2 p.1 ?_).trans e, n, ne, nf, d⟩
   intro q
   rw [q, hoc] at e
   have q' : oc = p.2 := Option.some.inj e
   exact d w' (by rw [← q']; exact hocd)
theorem Cw {M : Model} {A : Around} {E : Value → Shared → Prop} {i : Nat} {x : Str} {v : V} {u : Value} {Q : Unit → Shared → Prop} (I : Inv X pins σ H s) (hN : X.N.Nodup) (hi : X.N[i]? = some x) (hx : Loc X.env.scope x) (r : RelV v u)
  (h : ∀ s', Inv X pins (σ.set i (some v)) H s' → Q () s') (hf : autoParam (X.fn x = true ∨ X.env.scope.names.lookup x = some .local) zz0._auto_1) : wpAny M A (storeName X.env x u) Q E s :=
 Lo I hN hi hx r (fun s' I' _ => h s' I') hf
theorem Inv.ZbE {s' : Shared} {ch : List Addr} (I : Inv X pins σ H s) (ho : s'.os = s.os) (u : Un (frs X.stack) ch H H' s.heap s'.heap) (hok : HOk X.prog X.w H' s'.heap) (hg : AllBare s'.gens)
  (hch : ∀ b ∈ ch, (b ∈ X.ex ∨ X.s₀.heap.objs.size ≤ b) ∧ b ≠ X.env.locals ∧ (∀ x c, X.env.cells.lookup x = some c → c ≠ b) ∧ ∀ p ∈ X.pn ++ pins, p.1 ≠ b) : Inv X pins σ H' s' := by
 obtain ⟨h', g', d', t', o'⟩ := s'
 have e : o' = s.os := ho
 subst e
 exact I.call (g' := g') (t' := t') (d' := d') u hok hg hch
end
noncomputable abbrev XK := Value → Option Addr → Hp → Prop
noncomputable abbrev St := List (Option V)
noncomputable abbrev VK := V → Hp → Prop
noncomputable abbrev TE := St → Hp → VK → Prop
noncomputable abbrev TT := St → Hp → (Bool → Hp → Prop) → Prop
noncomputable abbrev TA := St → Hp → (List V → Hp → Prop) → Prop
structure Ends where
 nx : St → Hp → Prop
 rt : VK
 bk : St → Hp → Prop := fun _ _ => False
 ct : St → Hp → Prop := fun _ _ => False
noncomputable abbrev TS := Ends → St → Hp → Prop
noncomputable def EP (X : Cx) (pins : List (Addr × Obj)) (σ : St) (Q : VK) (u : Value) (s' : Shared) : Prop := ∃ v H', Inv X pins σ H' s' ∧ RelV v u ∧ Q v H'
noncomputable def TP (X : Cx) (pins : List (Addr × Obj)) (σ : St) (Q : Bool → Hp → Prop) (b : Bool) (s' : Shared) : Prop := ∃ H', Inv X pins σ H' s' ∧ Q b H'
noncomputable def AP (X : Cx) (pins : List (Addr × Obj)) (σ : St) (Q : List V → Hp → Prop) (us : List Value) (s' : Shared) : Prop := ∃ vs H', Inv X pins σ H' s' ∧ Vals vs us ∧ Q vs H'
noncomputable def SP (X : Cx) (pins : List (Addr × Obj)) (D : Ends) (f : Flow) (s' : Shared) : Prop :=
 match f with
 | .next => ∃ σ' H', Inv X pins σ' H' s' ∧ D.nx σ' H'
 | .brk => ∃ σ' H', Inv X pins σ' H' s' ∧ D.bk σ' H'
 | .cont => ∃ σ' H', Inv X pins σ' H' s' ∧ D.ct σ' H'
 | .ret u => ∃ v σ' H', Inv X pins σ' H' s' ∧ RelV v u ∧ D.rt v H'
noncomputable def PE (X : Cx) (e : Expr) (t : TE) : Prop :=
 ∀ (pins : List (Addr × Obj)) (s : Shared) (σ : St) (H : Hp) (Q : VK), Inv X pins σ H s → t σ H Q → wpAny (model X.prog X.w) X.A (eval e X.env) (EP X pins σ Q) X.xe s
noncomputable def PT (X : Cx) (e : Expr) (t : TT) : Prop :=
 ∀ (pins : List (Addr × Obj)) (s : Shared) (σ : St) (H : Hp) (Q : Bool → Hp → Prop), Inv X pins σ H s → t σ H Q → wpAny (model X.prog X.w) X.A (isTrue e X.env (eval e X.env)) (TP X pins σ Q) X.xe s
noncomputable def PW (X : Cx) (e : Expr) (t : TT) : Prop :=
 ∀ (whole : Sem Value) (pins : List (Addr × Obj)) (s : Shared) (σ : St) (H : Hp) (Q : Bool → Hp → Prop), Inv X pins σ H s → t σ H Q → wpAny (model X.prog X.w) X.A (isTrue e X.env whole) (TP X pins σ Q) X.xe s
theorem PW.pt {X : Cx} {e : Expr} {t : TT} (h : PW X e t) : PT X e t := h _
noncomputable def PA (X : Cx) (es : List Expr) (t : TA) : Prop :=
 ∀ (pos : Pos) (pins : List (Addr × Obj)) (s : Shared) (σ : St) (H : Hp) (Q : List V → Hp → Prop), Inv X pins σ H s → t σ H Q → wpAny (model X.prog X.w) X.A (spliced (backTo pos (starEach es X.env))) (AP X pins σ Q) X.xe s
noncomputable def PS (X : Cx) (st : Stmt) (t : TS) : Prop :=
 ∀ (pins : List (Addr × Obj)) (s : Shared) (σ : St) (H : Hp) (D : Ends), Inv X pins σ H s → t D σ H → wpAny (model X.prog X.w) X.A (exec st X.env) (SP X pins D) X.xe s
noncomputable def PSs (X : Cx) (st : List Stmt) (t : TS) : Prop :=
 ∀ (pins : List (Addr × Obj)) (s : Shared) (σ : St) (H : Hp) (D : Ends), Inv X pins σ H s → t D σ H → wpAny (model X.prog X.w) X.A (execs st X.env) (SP X pins D) X.xe s
theorem thn {α : Type} {t : Sem α} {Q Q' : α → Shared → Prop} {M : Model} {A : Around} {E : Value → Shared → Prop} {s : Shared} (h : wpAny M A t Q E s) (hQ : ∀ a s, Q a s → Q' a s) : wpAny M A t Q' E s := wpAny_mono h hQ fun _ _ x => x
end L2
namespace L2
open PySem PySem.Spec PyProof.Rows
section
variable {X : Cx}
noncomputable def Zfq (i : Nat) : TE := fun σ H Q => ∃ v, σ[i]? = some (some v) ∧ Q v H
noncomputable def tC (v : V) : TE := fun _ H Q => Q v H
theorem T5 {i : Nat} {x : Str} {pos : Pos} (hN : X.N[i]? = some x) (hv : Vis X.env.scope x) (hd : autoParam ((x == ("__debug__" : Str)) = false) zz1._auto_1) (hcd : autoParam ((x == ("__classdict__" : Str)) = false) zz1._auto_1) : PE X (.Name x pos) (Zfq i) := by
 intro pins s σ H Q I h
 obtain ⟨v, e, h⟩ := h
 obtain ⟨m, hn, hl⟩ := I.loc
 obtain ⟨u, r, l⟩ := hl i x v hN e hv
 have fin : EP X pins σ Q u s := ⟨v, H, I, r, h⟩
 rcases l with ⟨hk, hm⟩ | ⟨hk, c, hc, hcell⟩
 ·exact wpAny_Name (wpAny_loadName_local I.ok.kind hk hn hm fin) hd
 ·rcases hk with hk | hk
  ·exact wpAny_Name (wpAny_loadName_cell I.ok.kind hk hc hcell fin) hd
  ·exact wpAny_Name (wpAny_loadName_free I.ok.kind hk hc hcell fin hcd) hd
theorem TM {i j pos} : PE X (.Constant (.int i) j pos) (tC (.int i)) := fun _ _ _ H _ I h => wpAny_Constant_int ⟨.int i, H, I.tok _, ⟨_, rfl⟩, h⟩
theorem Zdk {b j pos} : PE X (.Constant (.bool b) j pos) (tC (.bl b)) := fun _ _ _ H _ I h => Constant_bool ⟨.bl b, H, I, rfl, h⟩
theorem Zbo {j pos} : PE X (.Constant .none j pos) (tC .non) := fun _ _ _ H _ I h => Constant_none ⟨.non, H, I, rfl, h⟩
theorem ZaV {x j pos} : PE X (.Constant (.str x) j pos) (tC (.str x)) := fun _ _ _ H _ I h => Calls.Constant_str ⟨.str x, H, I.tok _, ⟨_, rfl⟩, h⟩
noncomputable def Gl (X : Cx) (x : Str) : Prop := X.env.kindOf x = some .globalImplicit
theorem S7 {E : Value → Shared → Prop} {pins : List (Addr × Obj)} {s : Shared} {σ : St} {H : Hp} {x : Str} {u : Value} {pos : Pos} {Q : Value → Shared → Prop} (I : Inv X pins σ H s) (hg : Gl X x) (hm : X.mg x = some u) (h : Q u s)
  (hd : autoParam ((x == ("__debug__" : Str)) = false) zz1._auto_1) : wpAny (model X.prog X.w) X.A (eval (.Name x pos) X.env) Q E s :=
 Calls.Name_function_global I.ok.kind hg (Calls.loadGlobal_global (by rw [I.ok.glob]; exact I.mod.glob.keeps I.bk) hm h) hd
theorem Kl {E : Value → Shared → Prop} {pins : List (Addr × Obj)} {s : Shared} {σ : St} {H : Hp} {x : Str} {u : Value} {pos : Pos} {Q : Value → Shared → Prop} (I : Inv X pins σ H s) (hg : Gl X x) (hm : X.mg x = none) (hv : bootBuiltins x = some u) (h : Q u s)
  (hn : autoParam (x ≠ "__name__") zz1._auto_1) (hd : autoParam ((x == ("__debug__" : Str)) = false) zz1._auto_1) : wpAny (model X.prog X.w) X.A (eval (.Name x pos) X.env) Q E s := by
 obtain ⟨mb, h1, h2⟩ := I.mod.blt
 exact Calls.Name_function_global I.ok.kind hg (Calls.loadGlobal_builtin (by rw [I.ok.glob]; exact I.mod.glob.keeps I.bk) hm (by rw [I.ok.blt]; exact h1.keeps I.bk) ((h2 x hn).trans hv) h) hd
theorem RO {x : Str} {v : V} {u : Value} {pos : Pos} (hg : Gl X x) (hm : X.mg x = none) (hv : bootBuiltins x = some u) (r : RelV v u) (hn : autoParam (x ≠ "__name__") zz1._auto_1) (hd : autoParam ((x == ("__debug__" : Str)) = false) zz1._auto_1) : PE X (.Name x pos) (tC v) :=
 fun _ _ _ H _ I h => Kl I hg hm hv ⟨v, H, I, r, h⟩ hn hd
noncomputable def t2I (ta tb : TE) (k : Int → Int → Hp → Prop) : St → Hp → Prop := fun σ H => ta σ H fun x H1 => tb σ H1 fun y H2 => ∃ i j, x = .int i ∧ y = .int j ∧ k i j H2
noncomputable def ZfT (ta tb : TE) : TE := fun σ H Q => t2I ta tb (fun i j H2 => Q (.int (i + j)) H2) σ H
noncomputable def Zgd (ta tb : TE) : TE := fun σ H Q => t2I ta tb (fun i j H2 => Q (.int (i - j)) H2) σ H
noncomputable def Zf5 (ta tb : TE) : TE := fun σ H Q => t2I ta tb (fun i j H2 => (-(2 ^ 64) < i ∧ i < 2 ^ 64) ∧ Q (.int (i * j)) H2) σ H
variable {a b : Expr} {ta tb : TE} {pos : Pos}
noncomputable def PC (X : Cx) (op : CmpOp) (a b : Expr) (t : TE) : Prop :=
 ∀ (pins : List (Addr × Obj)) (s : Shared) (σ : St) (H : Hp) (Q : VK), Inv X pins σ H s → t σ H Q →
  wpAny (model X.prog X.w) X.A (eval a X.env) (fun v s₁ => wpAny (model X.prog X.w) X.A (eval b X.env) (fun u s₂ => wpAny (model X.prog X.w) X.A (compareOp op v u) (EP X pins σ Q) X.xe s₂) X.xe s₁) X.xe s
noncomputable def To (p : Int → Int → Bool) (ta tb : TE) : TE := fun σ H Q => t2I ta tb (fun i j H2 => Q (.bl (p i j)) H2) σ H
noncomputable abbrev tLt : TE → TE → TE := To fun i j => decide (i < j)
noncomputable abbrev tLe : TE → TE → TE := To fun i j => decide (i ≤ j)
noncomputable abbrev tGt : TE → TE → TE := To fun i j => decide (j < i)
noncomputable abbrev tGe : TE → TE → TE := To fun i j => decide (j ≤ i)
noncomputable abbrev Zf4 : TE → TE → TE := To fun i j => decide (i = j)
noncomputable abbrev ZfZ : TE → TE → TE := To fun i j => !decide (i = j)
noncomputable def ZfW (ta : TE) : TE := fun σ H Q => ta σ H fun x H1 => Q (.bl (decide (x = .non))) H1
noncomputable def Ze4 (ta : TE) : TE := fun σ H Q => ta σ H fun x H1 => Q (.bl (!decide (x = .non))) H1
noncomputable def tB (t : TE) : TT := fun σ H Q => t σ H fun x H1 => ∃ c, x = .bl c ∧ Q c H1
theorem Zaf {e : Expr} {t : TE} (h : PE X e t) (he : autoParam (∀ whole, isTrue e X.env whole = (do let v ← whole; standAt e.pos; holding [v] (truthy v))) zz2._auto_1) : PT X e (tB t) := by
 intro pins s σ H Q I hw
 refine isTrue_plain (thn (h pins s σ H _ I hw) fun v s1 ⟨x, H1, I1, r1, q1⟩ => ?_) (he _)
 obtain ⟨d, rfl, q⟩ := q1
 cases r1
 exact wpAny_truthy_bool ⟨H1, I1, q⟩
variable {tA tB' : TT} {rest : List Expr}
noncomputable def Zfg (t u : TT) : TT := fun σ H Q => t σ H fun c H1 => if c = true then u σ H1 Q else Q false H1
noncomputable def tOr (t u : TT) : TT := fun σ H Q => t σ H fun c H1 => if c = true then Q true H1 else u σ H1 Q
noncomputable def Ze9 (t : TT) : TT := fun σ H Q => t σ H fun c H1 => Q (!c) H1
theorem RB (ha : PT X a tA) : PW X (.BoolOp .And [a] pos) tA := by
 intro wh pins s σ H Q I h
 refine isTrue_and (thn (ha pins s σ H Q I h) fun c s1 e => ?_)
 cases c with
 | true => exact isTrue_and_nil e
 | false => exact e
theorem ZaL (ha : PT X a tA) : PW X (.BoolOp .Or [a] pos) tA := by
 intro wh pins s σ H Q I h
 refine isTrue_or (thn (ha pins s σ H Q I h) fun c s1 e => ?_)
 cases c with
 | false => exact isTrue_or_nil e
 | true => exact e
theorem Za2 (ha : PT X a tA) (hb : PW X (.BoolOp .And (b :: rest) pos) tB') : PW X (.BoolOp .And (a :: b :: rest) pos) (Zfg tA tB') := by
 intro wh pins s σ H Q I h
 refine isTrue_and (thn (ha pins s σ H _ I h) fun c s1 ⟨H1, I1, q1⟩ => ?_)
 cases c with
 | true => exact hb wh pins s1 σ H1 Q I1 q1
 | false => exact ⟨H1, I1, q1⟩
theorem Zdo (ha : PT X a tA) (hb : PW X (.BoolOp .Or (b :: rest) pos) tB') : PW X (.BoolOp .Or (a :: b :: rest) pos) (tOr tA tB') := by
 intro wh pins s σ H Q I h
 refine isTrue_or (thn (ha pins s σ H _ I h) fun c s1 ⟨H1, I1, q1⟩ => ?_)
 cases c with
 | true => exact ⟨H1, I1, q1⟩
 | false => exact hb wh pins s1 σ H1 Q I1 q1
theorem TY (ha : PT X a tA) : PT X (.UnaryOp .Not a pos) (Ze9 tA) := by
 intro pins s σ H Q I h
 exact isTrue_not (ha pins s σ H (fun c H1 => Q (!c) H1) I h)
noncomputable def Zdn (ta tb : TE) : TE := fun σ H Q => ta σ H fun x H1 => ∃ c, x = .bl c ∧ if c = true then tb σ H1 Q else Q (.bl false) H1
noncomputable def Zgf (ta tb : TE) : TE := fun σ H Q => ta σ H fun x H1 => ∃ c, x = .bl c ∧ if c = true then Q (.bl true) H1 else tb σ H1 Q
noncomputable def Zd2 (ta : TE) : TE := fun σ H Q => ta σ H fun x H1 => ∃ c, x = .bl c ∧ Q (.bl (!c)) H1
theorem ZbI {op} {t : TE} (h : PE X a t) : PE X (.BoolOp op [a] pos) t := fun pins s σ H Q I hw => BoolOp_one (h pins s σ H Q I hw)
theorem ZbF (ha : PE X a ta) (hb : PE X (.BoolOp .And (b :: rest) pos) tb) : PE X (.BoolOp .And (a :: b :: rest) pos) (Zdn ta tb) := by
 intro pins s σ H Q I h
 refine BoolOp_and (thn (ha pins s σ H _ I h) fun v s1 ⟨x, H1, I1, r1, q1⟩ => ?_)
 obtain ⟨c, rfl, q1⟩ := q1
 cases r1
 refine wpAny_truthy_bool ?_
 cases c with
 | true => exact hb pins s1 σ H1 Q I1 q1
 | false => exact ⟨.bl false, H1, I1, rfl, q1⟩
theorem Zcr (ha : PE X a ta) : PE X (.UnaryOp .Not a pos) (Zd2 ta) := by
 intro pins s σ H Q I h
 refine UnaryOp_ (thn (ha pins s σ H _ I h) fun v s1 ⟨x, H1, I1, r1, q1⟩ => ?_)
 obtain ⟨c, rfl, q1⟩ := q1
 cases r1
 exact not_of (wpAny_truthy_bool ⟨.bl (!c), H1, I1, rfl, q1⟩)
noncomputable def tIf (t : TT) (ta tb : TE) : TE := fun σ H Q => t σ H fun c H1 => if c = true then ta σ H1 Q else tb σ H1 Q
theorem NY {c : Expr} (hc : PT X c tA) (ha : PE X a ta) (hb : PE X b tb) : PE X (.IfExp c a b pos) (tIf tA ta tb) := by
 intro pins s σ H Q I h
 refine wpAny_IfExp (thn (hc pins s σ H _ I h) fun d s1 ⟨H1, I1, q1⟩ => ?_)
 cases d with
 | true => exact ha pins s1 σ H1 Q I1 q1
 | false => exact hb pins s1 σ H1 Q I1 q1
end
end L2
namespace L2
open PySem PySem.Spec PyProof.Rows
noncomputable def SqL (K : PySem.W.Frag) (H : Hp) (a : Addr) (xs : List V) : Prop :=
 Rd H a (.lst xs) ∨
  ∃ (o : Obj) (its : Array Value) (n : Nat), K.lookup a = some o ∧ o.cls = .type "list" ∧ o.dict = none ∧ o.data = .seq its n ∧ its.size ≤ sizeLine ∧ Vals xs its.toList
noncomputable def SqT (K : PySem.W.Frag) (H : Hp) (a : Addr) (xs : List V) : Prop :=
 Rd H a (.tup xs) ∨
  ∃ (o : Obj) (its : Array Value) (n : Nat), K.lookup a = some o ∧ o.cls = .type "tuple" ∧ o.data = .seq its n ∧ its.size ≤ sizeLine ∧ Vals xs its.toList
noncomputable def Zfw : Value → Option V
 | .none => some .non
 | .bool b => some (.bl b)
 | .int i _ => some (.int i)
 | .str x _ => some (.str x)
 | .bytes b _ => some (.byt b)
 | .float b _ => some (.flt b)
 | .ref a => some (.ref a)
 | .type n => some (.ty n)
 | _ => none
theorem RelV.abs {x : V} {u : Value} (r : RelV x u) : Zfw u = some x := by
 cases x with
 | non => cases r; rfl
 | bl _ => cases r; rfl
 | int _ => obtain ⟨t, rfl⟩ := r; rfl
 | str _ => obtain ⟨t, rfl⟩ := r; rfl
 | byt _ => obtain ⟨t, rfl⟩ := r; rfl
 | flt _ => obtain ⟨t, rfl⟩ := r; rfl
 | ref _ => cases r; rfl
 | ty _ => cases r; rfl
theorem RelV.inj {x y : V} {u : Value} (r : RelV x u) (q : RelV y u) : x = y := Option.some.inj (r.abs.symm.trans q.abs)
theorem Vals.inj : ∀ {xs ys : List V} {us : List Value}, Vals xs us → Vals ys us → xs = ys
 | _, _, _, .nil, .nil => rfl
 | _, _, _, .cons r t, .cons r' t' => by rw [r.inj r', Vals.inj t t']
section
variable {X : Cx} {pins : List (Addr × Obj)} {σ : St} {H : Hp} {s : Shared} {a : Addr} {xs ys : List V}
theorem SqL.of {K : PySem.W.Frag} (h : H a = some (.lst xs)) : SqL K H a xs := .inl (.inl h)
theorem SqT.of {K : PySem.W.Frag} (h : H a = some (.tup xs)) : SqT K H a xs := .inl (.inl h)
theorem Inv.list (I : Inv X pins σ H s) (h : SqL X.K H a xs) : ∃ its : List Value, Vals xs its ∧ PlainL s.heap a its.toArray ∧ xs.length ≤ sizeLine := by
 rcases h with h | ⟨o, its, n, hk, hc, hd, hs, hz, r⟩
 ·obtain ⟨z, its, n, r, e⟩ := h.ok I.hok
  exact ⟨its, r, ⟨_, n, e, rfl, rfl, rfl⟩, z⟩
 ·refine ⟨its.toList, r, ⟨o, n, I.kIn a o hk, hc, hd, by simpa using hs⟩, ?_⟩
  have e := r.length
  simp only [Array.length_toList] at e
  omega
theorem Inv.tuple (I : Inv X pins σ H s) (h : SqT X.K H a xs) : ∃ its : List Value, Vals xs its ∧ IsTup s.heap a its.toArray ∧ xs.length ≤ sizeLine := by
 rcases h with h | ⟨o, its, n, hk, hc, hs, hz, r⟩
 ·obtain ⟨z, its, r, p⟩ := h.ok I.hok
  exact ⟨its, r, p, z⟩
 ·refine ⟨its.toList, r, ⟨o, I.kIn a o hk, hc, n, by simpa using hs⟩, ?_⟩
  have e := r.length
  simp only [Array.length_toList] at e
  omega
theorem Inv.Np (I : Inv X pins σ H s) (h : SqL X.K H a xs) (h' : SqL X.K H a ys) : xs = ys := by
 obtain ⟨its, r, ⟨o, n, e, _, _, d⟩, _⟩ := I.list h
 obtain ⟨its', r', ⟨o', n', e', _, _, d'⟩, _⟩ := I.list h'
 rw [e] at e'; cases e'
 rw [d] at d'
 injection d' with d1 _
 have : its = its' := by simpa using congrArg Array.toList d1
 subst this
 exact r.inj r'
theorem Inv.Lq (I : Inv X pins σ H s) (h : SqT X.K H a xs) (h' : SqT X.K H a ys) : xs = ys := by
 obtain ⟨its, r, ⟨o, e, _, n, d⟩, _⟩ := I.tuple h
 obtain ⟨its', r', ⟨o', e', _, n', d'⟩, _⟩ := I.tuple h'
 rw [e] at e'; cases e'
 rw [d] at d'
 injection d' with d1 _
 have : its = its' := by simpa using congrArg Array.toList d1
 subst this
 exact r.inj r'
end
noncomputable abbrev Cx.LK (X : Cx) (E : Value → Shared → Prop) : Cx := { X with xe := E }
noncomputable abbrev Cx.nox (X : Cx) : Cx := X.LK fun _ _ => False
theorem Cx.Ok.LK {X : Cx} (ok : X.Ok) (E : Value → Shared → Prop) : (X.LK E).Ok :=
 ⟨ok.mod, ok.kind, ok.glob, ok.blt, ok.above, ok.inj, ok.has, ok.cab, ok.hd, ok.frames, ok.stk, ok.exf, ok.bs, ok.bsz, ok.noex, ok.exfs, ok.LC, ok.frf⟩
theorem Cx.Ok.XG {X : Cx} {E : Value → Shared → Prop} (ok : (X.LK E).Ok) : X.Ok :=
 ⟨ok.mod, ok.kind, ok.glob, ok.blt, ok.above, ok.inj, ok.has, ok.cab, ok.hd, ok.frames, ok.stk, ok.exf, ok.bs, ok.bsz, ok.noex, ok.exfs, ok.LC, ok.frf⟩
section
variable {X : Cx} {pins : List (Addr × Obj)} {σ : St} {H : Hp} {s : Shared} {E : Value → Shared → Prop}
theorem Inv.LK (I : Inv X pins σ H s) (E : Value → Shared → Prop) : Inv (X.LK E) pins σ H s := ⟨I.ok.LK E, I.os, I.bare, I.base, I.loc, I.cell, I.free, I.freeC, I.pin, I.hok, I.len⟩
theorem Inv.XG (I : Inv (X.LK E) pins σ H s) : Inv X pins σ H s := ⟨I.ok.XG, I.os, I.bare, I.base, I.loc, I.cell, I.free, I.freeC, I.pin, I.hok, I.len⟩
theorem SP.XG {D : Ends} {f : Flow} {s' : Shared} (h : SP (X.LK E) pins D f s') : SP X pins D f s' := by
 cases f with
 | next => obtain ⟨σ', H', I, q⟩ := h; exact ⟨σ', H', I.XG, q⟩
 | brk => obtain ⟨σ', H', I, q⟩ := h; exact ⟨σ', H', I.XG, q⟩
 | cont => obtain ⟨σ', H', I, q⟩ := h; exact ⟨σ', H', I.XG, q⟩
 | ret u => obtain ⟨v, σ', H', I, r, q⟩ := h; exact ⟨v, σ', H', I.XG, r, q⟩
theorem PSs.nox {st : List Stmt} {t : TS} (h : PSs X.nox st t) : PSs X st t := fun pins s σ H D I hw =>
 wpAny_mono (h pins s σ H D (I.LK _) hw) (fun _ _ q => q.XG) fun _ _ z => False.elim z
end
section
variable {X : Cx} {st : Stmt} {rest : List Stmt} {t u : TS} {e : Expr} {te : TE} {pos : Pos}
noncomputable def Zdd : TS := fun D σ H => D.nx σ H
noncomputable def Zfs (t u : TS) : TS := fun D σ H => t { D with nx := u D } σ H
theorem Te : PSs X [] Zdd := fun _ _ σ H _ I h => wpAny_execs_nil ⟨σ, H, I, h⟩
theorem NO (h1 : PS X st t) (h2 : PSs X rest u) : PSs X (st :: rest) (Zfs t u) := by
 intro pins s σ H D I h
 refine wpAny_execs_cons (thn (h1 pins s σ H { D with nx := u D } I h) fun f s1 q => ?_)
 cases f with
 | next =>
  obtain ⟨σ', H', I', q⟩ := q
  exact h2 pins s1 σ' H' D I' q
 | ret v => exact q
 | brk => exact q
 | cont => exact q
theorem Rl (h1 : PS X st t) : PSs X [st] t := by
 intro pins s σ H D I h
 refine wpAny_execs_cons (thn (h1 pins s σ H D I h) fun f s1 q => ?_)
 cases f with
 | next => exact wpAny_execs_nil q
 | ret v => exact q
 | brk => exact q
 | cont => exact q
noncomputable def Zel : TS := fun D σ H => D.bk σ H
noncomputable def Zfl : TS := fun D σ H => D.ct σ H
theorem Inv.quiet {pins : List (Addr × Obj)} {σ : St} {H : Hp} {s : Shared} (I : Inv X pins σ H s) : interactive X.env = false := by simp [interactive, I.ok.kind]
noncomputable def Zc7 (te : TE) : TS := fun D σ H => te σ H fun _ H1 => D.nx σ H1
theorem Tg (he : PE X e te) (hs : autoParam (swapsWith e none pos.line X.env = pure false) zz3._auto_1) : PS X (.Expr e pos) (Zc7 te) := by
 intro pins s σ H D I h
 exact wpAny_Expr_any (thn (he pins s σ H _ I h) fun v s1 ⟨x, H1, I1, r1, q1⟩ => ⟨σ, H1, I1, q1⟩) I.quiet hs
noncomputable def ZfS (te : TE) : TS := fun D σ H => te σ H D.rt
theorem Zb9 (he : PE X e te) : PS X (.Return (some e) pos) (ZfS te) := by
 intro pins s σ H D I h
 exact wpAny_Return_some (thn (he pins s σ H _ I h) fun v s1 ⟨x, H1, I1, r1, q1⟩ => ⟨x, σ, H1, I1, r1, q1⟩)
noncomputable def Zfa : TS := fun D _ H => D.rt .non H
noncomputable def Ze8 (c : TT) (t u : TS) : TS := fun D σ H => c σ H fun b H1 => if b = true then t D σ H1 else u D σ H1
theorem Zdr {c : Expr} {a b : List Stmt} {tc : TT} (hc : PT X c tc) (ha : PSs X a t) (hb : PSs X b u) : PS X (.If c a b pos) (Ze8 tc t u) := by
 intro pins s σ H D I h
 refine wpAny_If (thn (hc pins s σ H _ I h) fun d s1 ⟨H1, I1, q1⟩ => ?_)
 cases d with
 | true => exact ha pins s1 σ H1 D I1 q1
 | false => exact hb pins s1 σ H1 D I1 q1
noncomputable def Zej : TS := fun _ _ _ => False
end
noncomputable abbrev TG := V → St → Hp → (St → Hp → Prop) → Prop
noncomputable abbrev TGs := List V → St → Hp → (St → Hp → Prop) → Prop
noncomputable def PG (X : Cx) (target : Expr) (t : TG) : Prop :=
 ∀ (pins : List (Addr × Obj)) (s : Shared) (σ : St) (H : Hp) (v : V) (u : Value) (Q : St → Hp → Prop), Inv X pins σ H s → RelV v u → t v σ H Q →
  wpAny (model X.prog X.w) X.A (assign target X.env u) (fun _ s' => ∃ σ' H', Inv X pins σ' H' s' ∧ Q σ' H') X.xe s
noncomputable def PGs (X : Cx) (ts : List Expr) (t : TGs) : Prop :=
 ∀ (pins : List (Addr × Obj)) (s : Shared) (σ : St) (H : Hp) (vs : List V) (us : List Value) (Q : St → Hp → Prop), Inv X pins σ H s → Vals vs us → t vs σ H Q →
  wpAny (model X.prog X.w) X.A (assignInOrder ((assignEach ts X.env).map (·.2)) us) (fun _ s' => ∃ σ' H', Inv X pins σ' H' s' ∧ Q σ' H') X.xe s
noncomputable abbrev ZcP := V → V → V → Hp → (Hp → Prop) → Prop
noncomputable def Zet (X : Cx) (t : ZcP) : Prop :=
 ∀ (pins : List (Addr × Obj)) (s : Shared) (σ : St) (H : Hp) (o i v : V) (ov iv u : Value) (Q : Hp → Prop), Inv X pins σ H s → RelV o ov → RelV i iv → RelV v u → t o i v H Q →
  wpAny (model X.prog X.w) X.A (setItem ov iv u) (fun _ s' => ∃ H', Inv X pins σ H' s' ∧ Q H') X.xe s
noncomputable abbrev TIp := V → V → Hp → VK → Prop
noncomputable def PIp (X : Cx) (op : Operator) (t : TIp) : Prop :=
 ∀ (pins : List (Addr × Obj)) (s : Shared) (σ : St) (H : Hp) (x y : V) (v u : Value) (Q : VK), Inv X pins σ H s → RelV x v → RelV y u → t x y H Q →
  wpAny (model X.prog X.w) X.A (inplaceOp op v u) (EP X pins σ Q) X.xe s
section
variable {X : Cx} {pos : Pos}
noncomputable def ZbD (i : Nat) : TG := fun v σ H Q => Q (σ.set i (some v)) H
theorem HZ {i : Nat} {x : Str} (hN : X.N.Nodup) (hi : X.N[i]? = some x) (hx : Loc X.env.scope x) (hf : autoParam (X.fn x = true ∨ X.env.scope.names.lookup x = some .local) zz0._auto_1) : PG X (.Name x pos) (ZbD i) := by
 intro pins s σ H v u Q I r h
 exact wpAny_assign_Name (Cw I hN hi hx r (fun s' I' => ⟨_, H, I', h⟩) hf)
noncomputable def ZfR : TGs := fun vs σ H Q => vs = [] ∧ Q σ H
noncomputable def Zea (t : TG) (u : TGs) : TGs := fun vs σ H Q => ∃ v r, vs = v :: r ∧ t v σ H fun σ' H' => u r σ' H' Q
theorem SU : PGs X [] ZfR := by
 intro pins s σ H vs us Q I r h
 obtain ⟨e, h⟩ := h
 subst e
 cases r
 exact assignInOrder_nil ⟨σ, H, I, h⟩
theorem MZ {e : Expr} {es : List Expr} {t : TG} {u : TGs} (h1 : PG X e t) (h2 : PGs X es u)
  (hs : autoParam ((assignEach (e :: es) X.env).map (·.2) = assign e X.env :: (assignEach es X.env).map (·.2)) zz3._auto_1) : PGs X (e :: es) (Zea t u) := by
 intro pins s σ H vs us Q I r h
 obtain ⟨v, vr, e1, h⟩ := h
 subst e1
 cases r with
 | cons r rr =>
  rw [hs]
  refine assignInOrder_cons (thn (h1 pins s σ H _ _ _ I r h) fun _ s1 ⟨σ1, H1, I1, q1⟩ => ?_)
  exact h2 pins s1 σ1 H1 _ _ Q I1 rr q1
noncomputable def Zfd (K : PySem.W.Frag) (n : Nat) (t : TGs) : TG := fun v σ H Q => ∃ a xs, v = .ref a ∧ SqT K H a xs ∧ xs.length = n ∧ t xs σ H Q
theorem ZaD {es : List Expr} {k : Nat} {t : TGs} {n : Nat} (hc : X.calm = true) (h : PGs X es t)
  (hn : autoParam ((assignEach es X.env).length = n) zz3._auto_1) (hst : autoParam ((assignEach es X.env).findIdx? (·.1) = none) zz3._auto_1) : PG X (.Tuple es k pos) (Zfd X.K n t) := by
 intro pins s σ H v u Q I r hw
 obtain ⟨a, xs, e1, hq, hl, hw⟩ := hw
 subst e1
 cases r
 obtain ⟨its, rv, ht, hz⟩ := I.tuple hq
 refine assign_Tuple_tuple (I.ok.hd hc) ht (by simp [hn, ← hl, rv.length]) hst fun h' hx => ?_
 have I1 : Inv X pins σ H { s with heap := h' } := I.kept (t' := s.toks) fun b o e => hx b o (Nat.ne_of_lt (Heap.lt_size e)) e
 exact h pins _ σ H xs _ Q I1 (by simpa using rv) hw
noncomputable def ZfD (to ti : TE) (t : ZcP) : TG := fun v σ H Q => to σ H fun o H1 => ti σ H1 fun i H2 => t o i v H2 fun H3 => Q σ H3
theorem ZaM {o i : Expr} {to ti : TE} {t : ZcP} (ho : PE X o to) (hi : PE X i ti) (hs : Zet X t)
  (ha : ∀ v, assign (.Subscript o i pos) X.env v = (do
   let ov ← holding [v] (eval o X.env)
   let iv ← holding [v, ov] (eval i X.env)
   standAt pos
   holding [v, ov, iv] (setItem ov iv v)
   release [v, ov, iv] []) := by intro _; rfl) : PG X (.Subscript o i pos) (ZfD to ti t) := by
 intro pins s σ H v u Q I r h
 rw [ha]
 refine wpAny_bind (wpAny_holding (thn (ho pins s σ H _ I h) fun ov s1 ⟨x, H1, I1, r1, q1⟩ => ?_))
 refine wpAny_bind (wpAny_holding (thn (hi pins s1 σ H1 _ I1 q1) fun iv s2 ⟨y, H2, I2, r2, q2⟩ => ?_))
 refine wpAny_bind (wpAny_standAt (wpAny_bind (wpAny_holding (thn (hs pins s2 σ H2 x y v ov iv u _ I2 r1 r2 r q2) fun _ s3 ⟨H3, I3, q3⟩ => ?_))))
 exact wpAny_release ⟨σ, H3, I3, q3⟩
noncomputable def Ze1 (te : TE) (g : TG) : TS := fun D σ H => te σ H fun x H1 => g x σ H1 D.nx
theorem T1 {tg e : Expr} {te : TE} {g : TG} (he : PE X e te) (hg : PG X tg g) (hs : autoParam (swapsWithSole [tg] e pos.line X.env = pure false) zz3._auto_1) (hw : autoParam (swappedStores [tg] e X.env = pure none) zz3._auto_1)
  (h1 : autoParam ((assignEach [tg] X.env).map (·.2) = [assign tg X.env]) zz3._auto_1) : PS X (.Assign [tg] e pos) (Ze1 te g) := by
 intro pins s σ H D I h
 refine wpAny_Assign_stores (thn (he pins s σ H _ I h) fun v s1 ⟨x, H1, I1, r1, q1⟩ => ?_) hs hw
 rw [h1]
 exact thn (hg pins s1 σ H1 x v _ I1 r1 q1) fun _ s2 q => q
theorem ZaG {i : Nat} {x : Str} {e : Expr} {te : TE} {pos' : Pos} (hN : X.N.Nodup) (hi : X.N[i]? = some x) (hx : Loc X.env.scope x) (he : PE X e te) (hs : autoParam (swapsWith e (some (.Name x pos')) pos.line X.env = pure false) zz3._auto_1) (hf : autoParam (X.fn x = true ∨ X.env.scope.names.lookup x = some .local) zz0._auto_1) :
  PS X (.Assign [.Name x pos'] e pos) (Ze1 te (ZbD i)) := by
 intro pins s σ H D I h
 refine wpAny_Assign_Name (thn (he pins s σ H _ I h) fun v s1 ⟨y, H1, I1, r1, q1⟩ => ?_) hs
 exact Cw I1 hN hi hx r1 (fun s2 I2 => ⟨_, H1, I2, q1⟩) hf
noncomputable def ZfY (i j : Nat) (ta : TA) : TS := fun D σ H => ta σ H fun vs H1 => ∃ v w, vs = [v, w] ∧ D.nx ((σ.set i (some v)).set j (some w)) H1
noncomputable def Zgh (i : Nat) (te : TE) (ti : TIp) : TS := fun D σ H => ∃ x, σ[i]? = some (some x) ∧ te σ H fun y H1 => ti x y H1 fun z H2 => D.nx (σ.set i (some z)) H2
noncomputable def Ze7 (to ti te : TE) (tget : V → V → Hp → VK → Prop) (tip : TIp) (tset : ZcP) : TS := fun D σ H => to σ H fun o H1 => ti σ H1 fun i H2 => tget o i H2 fun x H3 => te σ H3 fun y H4 => tip x y H4 fun z H5 => tset o i z H5 fun H6 => D.nx σ H6
noncomputable def Zf9 (X : Cx) (t : V → V → Hp → VK → Prop) : Prop :=
 ∀ (pins : List (Addr × Obj)) (s : Shared) (σ : St) (H : Hp) (o i : V) (ov iv : Value) (Q : VK), Inv X pins σ H s → RelV o ov → RelV i iv → t o i H Q →
  wpAny (model X.prog X.w) X.A (getItem ov iv) (EP X pins σ Q) X.xe s
noncomputable def ipI (f : Int → Int → Int) : TIp := fun x y H Q => ∃ i j, x = .int i ∧ y = .int j ∧ Q (.int (f i j)) H
end
section
variable {X : Cx} {pos : Pos}
noncomputable def Zcd (c : TT) (tb : TS) : TS := fun D σ H => ∃ W : Nat → St → Hp → Prop, (∃ m, W m σ H) ∧ ∀ m σ H, W m σ H →
 c σ H fun b H1 => if b = true then ∃ N : St → Hp → Prop, (∀ σ' H', N σ' H' → ∃ m', m' < m ∧ W m' σ' H') ∧ tb { D with nx := N, ct := N, bk := D.nx } σ H1 else D.nx σ H1
theorem Mu {c : Expr} {body : List Stmt} {tc : TT} {tb : TS} (hp : PassesOwn (model X.prog X.w) X.A X.env X.xe) (hc : PT X c tc) (hb : PSs X body tb) : PS X (.While c body [] pos) (Zcd tc tb) := by
 intro pins s σ H D I h
 obtain ⟨W, ⟨m0, w0⟩, turn⟩ := h
 refine wpAny_While (codeAny_whileLoop (fun n s' => ∃ σ' H', Inv X pins σ' H' s' ∧ W n σ' H') ?_ m0 ⟨σ, H, I, w0⟩)
 rintro n s1 ⟨σ1, H1, I1, w1⟩
 refine wpAny_passesOwn hp (thn (hc pins s1 σ1 H1 _ I1 (turn n σ1 H1 w1)) fun b s2 ⟨H2, I2, q2⟩ => ?_)
 cases b with
 | true =>
  obtain ⟨N, hN, q2⟩ := q2
  rw [if_pos rfl]
  refine wpAny_passesOwn hp (thn (hb pins s2 σ1 H2 _ I2 q2) fun f s3 q3 => ?_)
  cases f with
  | next =>
   obtain ⟨σ3, H3, I3, n3⟩ := q3
   obtain ⟨m', hm, w3⟩ := hN σ3 H3 n3
   exact ⟨m', hm, σ3, H3, I3, w3⟩
  | cont =>
   obtain ⟨σ3, H3, I3, n3⟩ := q3
   obtain ⟨m', hm, w3⟩ := hN σ3 H3 n3
   exact ⟨m', hm, σ3, H3, I3, w3⟩
  | brk => exact q3
  | ret v => exact q3
 | false =>
  rw [if_neg Bool.false_ne_true]
  exact wpAny_execs_nil ⟨σ1, H2, I2, q2⟩
end
structure It where
 go : Nat → Hp → Prop
 yld : Nat → Hp → V → Hp → Prop
 stop : Nat → Hp → Prop
noncomputable def Lb (X : Cx) (pins : List (Addr × Obj)) (H : Hp) (b : Addr) : Prop :=
 H b = none ∧ b ≠ X.env.locals ∧ b ∉ X.fs ∧ (b ∈ X.ex ∨ X.s₀.heap.objs.size ≤ b) ∧ (∀ x c, X.env.cells.lookup x = some c → c ≠ b) ∧ ∀ p ∈ X.pn ++ pins, p.1 ≠ b
theorem Inv.ZcG {X : Cx} {pins : List (Addr × Obj)} {σ : St} {H H' : Hp} {s : Shared} {b : Addr} (I : Inv X pins σ H s) (hb : s.heap.objs.size ≤ b) (hn : H' b = none) : Lb X pins H' b := by
 refine ⟨hn, Nat.ne_of_gt (Nat.lt_of_lt_of_le I.lt hb), I.Zfp hb, .inr (Nat.le_trans I.sz hb), fun x c e z => ?_, fun p hp z => ?_⟩
 ·obtain ⟨v, q⟩ := I.cell x c e
  exact absurd (Nat.lt_of_lt_of_le q.lt (by rw [z]; exact hb)) (Nat.lt_irrefl _)
 ·exact absurd (Nat.lt_of_lt_of_le (Heap.lt_size (I.pin p hp).1) (by rw [z]; exact hb)) (Nat.lt_irrefl _)
structure Turn (P : Program) (w : World) (K : PySem.W.Frag) (tg : Expr) (J : It) (fp : List Addr) (it : Addr) (tn : Nat → Heap → Prop) : Prop where
 mem : it ∈ fp
 obj : ∀ i h, tn i h → ∀ b ∈ fp, ∃ o, h.get? b = some o ∧ ∀ v, o.data ≠ .cell v
 keep : ∀ i h h', tn i h → (∀ b ∈ fp, ∀ o, h.get? b = some o → h'.get? b = some o) → tn i h'
 item : ∀ (X : Cx), X.prog = P → X.w = w → X.K = K → X.calm = true → ∀ (i : Nat) (pins : List (Addr × Obj)) (s : Shared) (σ : St) (H : Hp) (E : Value → Shared → Prop), Inv X pins σ H s → (∀ b ∈ fp, Lb X pins H b) → tn i s.heap → J.go i H →
  wpAny (model P w) X.A (pyNext (.ref it)) (fun r s1 => ∃ u, r = some u ∧
   wpAny (model P w) X.A (letOwnedTupleGo tg (.ref it) u) (fun _ s2 => ∃ x H', Inv X pins σ H' s2 ∧ RelV x u ∧ J.yld i H x H' ∧ tn (i + 1) s2.heap ∧ ∀ b ∈ fp, H' b = none) E s1) E s
 done : ∀ (X : Cx), X.prog = P → X.w = w → X.K = K → X.calm = true → ∀ (i : Nat) (pins : List (Addr × Obj)) (s : Shared) (σ : St) (H : Hp) (E : Value → Shared → Prop), Inv X pins σ H s → (∀ b ∈ fp, Lb X pins H b) → tn i s.heap → J.stop i H →
  wpAny (model P w) X.A (pyNext (.ref it)) (fun r s1 => r = none ∧ Inv X pins σ H s1) E s
 self : ∀ (A : Around) (i : Nat) (s : Shared) (Q : Value → Shared → Prop) (E : Value → Shared → Prop), tn i s.heap → Q (.ref it) s → wpAny (model P w) A (pyIter (.ref it)) Q E s
noncomputable abbrev TI := St → Hp → (It → Hp → Prop) → Prop
noncomputable def PIE (X : Cx) (pins : List (Addr × Obj)) (σ : St) (tg : Expr) (R : It → Hp → Prop) (itv : Value) (s2 : Shared) : Prop :=
 ∃ (it : Addr) (fp : List Addr) (tn : Nat → Heap → Prop) (J : It) (H' : Hp), itv = .ref it ∧ Inv X pins σ H' s2 ∧ Turn X.prog X.w X.K tg J fp it tn ∧ tn 0 s2.heap ∧ (∀ b ∈ fp, Lb X pins H' b) ∧ R J H'
noncomputable def PI (X : Cx) (tg iter : Expr) (wi : TI) : Prop :=
 ∀ (pins : List (Addr × Obj)) (s : Shared) (σ : St) (H : Hp) (R : It → Hp → Prop), Inv X pins σ H s → wi σ H R →
  wpAny (model X.prog X.w) X.A (eval iter X.env) (fun v s1 => wpAny (model X.prog X.w) X.A (pyIter v) (PIE X pins σ tg R) X.xe s1) X.xe s
theorem RD {M : Model} {A : Around} {E : Value → Shared → Prop} {s : Shared} {tg : Expr} {it : Addr} {u : Value} {o : Obj} {n : String} {vs : Array Value} {Q : Unit → Shared → Prop} (ho : s.heap.get? it = some o) (hc : o.cls = .type n) (hd : o.data = .fields vs)
    (hn : ["enumerate", "zip", "dict_itemiterator", "dict_reverseitemiterator", "odict_iterator", "itertools.zip_longest", "itertools.pairwise"].contains n = false) (hQ : Q () s) : wpAny M A (letOwnedTupleGo tg (.ref it) u) Q E s := by
  unfold letOwnedTupleGo
  cases tg <;> first
    | exact wpAny_pure hQ
    | (cases u <;> first
        | exact wpAny_pure hQ
        | (refine wpAny_bind (wpAny_load ho ?_)
           rw [hc, hd]
           show wpAny M A (if (["enumerate", "zip", "dict_itemiterator", "dict_reverseitemiterator", "odict_iterator", "itertools.zip_longest", "itertools.pairwise"].contains n && vs[0]? == some (rawInt _)) = true then _ else _) Q E s
           rw [if_neg (by intro h; rw [hn, Bool.false_and] at h; cases h)]
           exact wpAny_pure hQ))
noncomputable def Itl (K : PySem.W.Frag) (a : Addr) : It :=
 ⟨fun i H => ∃ xs x, SqL K H a xs ∧ xs[i]? = some x, fun i H x H' => H' = H ∧ ∀ xs, SqL K H a xs → xs[i]? = some x, fun i H => ∃ xs, SqL K H a xs ∧ xs.length ≤ i⟩
noncomputable def Itt (K : PySem.W.Frag) (a : Addr) : It :=
 ⟨fun i H => ∃ xs x, SqT K H a xs ∧ xs[i]? = some x, fun i H x H' => H' = H ∧ ∀ xs, SqT K H a xs → xs[i]? = some x, fun i H => ∃ xs, SqT K H a xs ∧ xs.length ≤ i⟩
noncomputable def Itr (lo : Int) (n : Nat) : It := ⟨fun i _ => i < n, fun i H x H' => H' = H ∧ x = .int (lo + i), fun i _ => n ≤ i⟩
theorem EX {P : Program} {w : World} {K : PySem.W.Frag} {tg : Expr} (a it : Addr) : Turn P w K tg (Itl K a) [it] it (fun i h => h.IsListIter it a i) where
 mem := by simp
 obj := fun i h st b hb => by
  have e : b = it := by simpa using hb
  subst e
  obtain ⟨o, e, c, d⟩ := st
  exact ⟨o, e, fun v z => by rw [d] at z; cases z⟩
 keep := fun i h h' st k => st.at fun o e => k it (by simp) o e
 item := by
  intro X hP hw hK hc i pins s σ H E I hf st hg
  subst hP hw hK
  obtain ⟨xs, x, hq, hx⟩ := hg
  obtain ⟨its, rv, p, hz⟩ := I.list hq
  obtain ⟨u, hu, ru⟩ := rv.get hx
  obtain ⟨f0, f1, f2, f3, f4, f5⟩ := hf it (by simp)
  refine wpAny_pyNext_list_item st p.isList (x := u) (by simpa using hu) fun h' st' sb => ?_
  have I1 : Inv X pins σ H { s with heap := h' } := I.turned (t' := s.toks) (fun b o hb e => (sb.2 b hb).trans e) f0 f1 f3 f4 f5
  obtain ⟨o, e, c, d⟩ := id st'
  exact ⟨u, rfl, RD (s := { s with heap := h' }) e c d (by decide) ⟨x, H, I1, ru, ⟨rfl, fun ys hy => by rw [I.Np hy hq]; exact hx⟩, st', fun b hb => (hf b hb).1⟩⟩
 done := by
  intro X hP hw hK hc i pins s σ H E I hf st hg
  subst hP hw hK
  obtain ⟨xs, hq, hx⟩ := hg
  obtain ⟨its, rv, p, hz⟩ := I.list hq
  obtain ⟨f0, f1, f2, f3, f4, f5⟩ := hf it (by simp)
  have hl := rv.length
  exact wpAny_pyNext_list_end (I.ok.hd hc) st p.isList (by simp; omega) fun h' eb => ⟨rfl, I.turned (t' := s.toks) (fun b o hb e => eb b o hb e) f0 f1 f3 f4 f5⟩
 self := fun _ _ _ _ _ st h => wpAny_pyIter_listiter st h
theorem Df {P : Program} {w : World} {K : PySem.W.Frag} {tg : Expr} (a it : Addr) : Turn P w K tg (Itt K a) [it] it (fun i h => h.IsTupleIter it a i) where
 mem := by simp
 obj := fun i h st b hb => by
  have e : b = it := by simpa using hb
  subst e
  obtain ⟨o, e, c, d⟩ := st
  exact ⟨o, e, fun v z => by rw [d] at z; cases z⟩
 keep := fun i h h' st k => st.at fun o e => k it (by simp) o e
 item := by
  intro X hP hw hK hc i pins s σ H E I hf st hg
  subst hP hw hK
  obtain ⟨xs, x, hq, hx⟩ := hg
  obtain ⟨its, rv, p, hz⟩ := I.tuple hq
  obtain ⟨u, hu, ru⟩ := rv.get hx
  obtain ⟨f0, f1, f2, f3, f4, f5⟩ := hf it (by simp)
  refine wpAny_pyNext_tuple_item st (show s.heap.IsTuple a its.toArray from p) (x := u) (by simpa using hu) fun h' st' sb => ?_
  have I1 : Inv X pins σ H { s with heap := h' } := I.turned (t' := s.toks) (fun b o hb e => (sb.2 b hb).trans e) f0 f1 f3 f4 f5
  obtain ⟨o, e, c, d⟩ := id st'
  exact ⟨u, rfl, RD (s := { s with heap := h' }) e c d (by decide) ⟨x, H, I1, ru, ⟨rfl, fun ys hy => by rw [I.Lq hy hq]; exact hx⟩, st', fun b hb => (hf b hb).1⟩⟩
 done := by
  intro X hP hw hK hc i pins s σ H E I hf st hg
  subst hP hw hK
  obtain ⟨xs, hq, hx⟩ := hg
  obtain ⟨its, rv, p, hz⟩ := I.tuple hq
  obtain ⟨f0, f1, f2, f3, f4, f5⟩ := hf it (by simp)
  have hl := rv.length
  exact wpAny_pyNext_tuple_end (I.ok.hd hc) st (show s.heap.IsTuple a its.toArray from p) (by simp; omega) fun h' eb => ⟨rfl, I.turned (t' := s.toks) (fun b o hb e => eb b o hb e) f0 f1 f3 f4 f5⟩
 self := fun _ _ _ _ _ st h => wpAny_pyIter_tupleiter st h
theorem DC {P : Program} {w : World} {K : PySem.W.Frag} {tg : Expr} (it : Addr) (lo : Int) (n : Nat) : Turn P w K tg (Itr lo n) [it] it (fun i h => IsRangeIter h it (lo + (i : Nat) * 1) ((n : Int) - (i : Nat)) 1) where
 mem := by simp
 obj := fun i h st b hb => by
  have e : b = it := by simpa using hb
  subst e
  exact ⟨_, st, fun v z => by
   have z' : Data.fields _ = Data.cell v := z
   cases z'⟩
 keep := fun i h h' st k => k it (by simp) _ st
 item := by
  intro X hP hw hK hc i pins s σ H E I hf st hg
  subst hP hw hK
  obtain ⟨f0, f1, f2, f3, f4, f5⟩ := hf it (by simp)
  have W := Walks.range (prog := X.prog) (w := X.w) (I.ok.hd hc) it lo 1 n
  refine W.item i s _ _ hg st fun v h' tk hv st' kk => ?_
  obtain ⟨t, rfl⟩ := hv
  have I1 : Inv X pins σ H { s with heap := h', toks := tk } := I.turned (fun b o hb e => kk b o (by simpa using hb) e) f0 f1 f3 f4 f5
  refine ⟨_, rfl, RD (s := { s with heap := h', toks := tk }) (n := "range_iterator") st' rfl rfl (by decide) ⟨.int (lo + i), H, I1, ⟨t, ?_⟩, ⟨rfl, rfl⟩, st', fun b hb => (hf b hb).1⟩⟩
  rw [Int.mul_one]
 done := by
  intro X hP hw hK hc i pins s σ H E I hf st hg
  subst hP hw hK
  obtain ⟨f0, f1, f2, f3, f4, f5⟩ := hf it (by simp)
  exact wpAny_pyNext_range_end (I.ok.hd hc) st (by have : n ≤ i := hg; omega) fun h' eb => ⟨rfl, I.turned (t' := s.toks) (fun b o hb e => eb b o hb e) f0 f1 f3 f4 f5⟩
 self := fun _ _ _ _ _ st h => wpAny_pyIter_rangeiter st h
end L2
namespace L2
open PySem PySem.Spec PyProof.Rows
section
variable {X : Cx} {tg : Expr}
noncomputable def Zc5 (K : PySem.W.Frag) (tl : TE) : TI := fun σ H R => tl σ H fun x H1 => ∃ a, x = .ref a ∧ (∃ xs, SqL K H1 a xs) ∧ R (Itl K a) H1
noncomputable def ZfE (K : PySem.W.Frag) (tl : TE) : TI := fun σ H R => tl σ H fun x H1 => ∃ a, x = .ref a ∧ (∃ xs, SqT K H1 a xs) ∧ R (Itt K a) H1
theorem HB {l : Expr} {tl : TE} (hl : PE X l tl) : PI X tg l (Zc5 X.K tl) := by
 intro pins s σ H R I h
 refine thn (hl pins s σ H _ I h) fun v s1 ⟨x, H1, I1, r1, q1⟩ => ?_
 obtain ⟨a, e, ⟨xs, hq⟩, q⟩ := q1
 subst e
 cases r1
 obtain ⟨its, rv, p, hz⟩ := I1.list hq
 refine wpAny_pyIter_list p.isList ?_
 refine ⟨s1.heap.objs.size, [s1.heap.objs.size], _, _, H1, rfl, I1.kept (t' := s1.toks) fun b o e => Heap.get?_push_of_some _ e, EX a _, ⟨_, Heap.get?_push_size _ rfl, rfl, rfl⟩, fun b hb => ?_, q⟩
 have e : b = s1.heap.objs.size := by simpa using hb
 subst e
 exact I1.ZcG (Nat.le_refl _) (I1.hok.fresh (Nat.le_refl _))
theorem OZ {l : Expr} {tl : TE} (hl : PE X l tl) : PI X tg l (ZfE X.K tl) := by
 intro pins s σ H R I h
 refine thn (hl pins s σ H _ I h) fun v s1 ⟨x, H1, I1, r1, q1⟩ => ?_
 obtain ⟨a, e, ⟨xs, hq⟩, q⟩ := q1
 subst e
 cases r1
 obtain ⟨its, rv, p, hz⟩ := I1.tuple hq
 refine wpAny_pyIter_tuple (show s1.heap.IsTuple a its.toArray from p) ?_
 refine ⟨s1.heap.objs.size, [s1.heap.objs.size], _, _, H1, rfl, I1.kept (t' := s1.toks) fun b o e => Heap.get?_push_of_some _ e, Df a _, ⟨_, Heap.get?_push_size _ rfl, rfl, rfl⟩, fun b hb => ?_, q⟩
 have e : b = s1.heap.objs.size := by simpa using hb
 subst e
 exact I1.ZcG (Nat.le_refl _) (I1.hok.fresh (Nat.le_refl _))
theorem CF {pins : List (Addr × Obj)} {σ : St} {H : Hp} {s : Shared} {R : It → Hp → Prop} {E : Value → Shared → Prop} {lo hi : Int} {t u v : Tok} {tk : Nat} (I : Inv X pins σ H s) (h1 : -(2 ^ 62) ≤ lo) (h2 : lo < 2 ^ 62) (h3 : -(2 ^ 62) ≤ hi) (h4 : hi < 2 ^ 62)
  (q : R (Itr lo (hi - lo).toNat) H) : wpAny (model X.prog X.w) X.A (pyIter (.ref s.heap.objs.size)) (PIE X pins σ tg R) E { s with heap := s.heap.push { cls := .type "range", data := .fields #[.int lo t, .int hi u, .int 1 v] }, toks := tk } := by
 refine wpAny_pyIter_range (IsRange.new ..) (small_one h1 h2 h3 h4) ?_
 have I1 : Inv X pins σ H { s with heap := s.heap.push { cls := .type "range", data := .fields #[.int lo t, .int hi u, .int 1 v] }, toks := tk } := I.kept fun b o e => Heap.get?_push_of_some _ e
 refine ⟨(s.heap.push { cls := .type "range", data := .fields #[.int lo t, .int hi u, .int 1 v] }).objs.size, [(s.heap.push { cls := .type "range", data := .fields #[.int lo t, .int hi u, .int 1 v] }).objs.size], _, _, H, rfl,
  I1.kept (t' := tk) fun b o e => Heap.get?_push_of_some _ e, DC _ lo (hi - lo).toNat, ?_, fun b hb => ?_, q⟩
 ·have e1 : lo + ((0 : Nat) : Int) * 1 = lo := by simp
  have e2 : (((hi - lo).toNat : Nat) : Int) - ((0 : Nat) : Int) = Builtin.Range.rangeSize lo hi 1 := by rw [rangeSize_one]; split <;> omega
  show IsRangeIter _ _ (lo + ((0 : Nat) : Int) * 1) ((((hi - lo).toNat : Nat) : Int) - ((0 : Nat) : Int)) 1
  rw [e1, e2]
  exact Heap.get?_push_size _ rfl
 ·have e : b = (s.heap.push { cls := .type "range", data := .fields #[.int lo t, .int hi u, .int 1 v] }).objs.size := by simpa using hb
  subst e
  exact I1.ZcG (Nat.le_refl _) (I1.hok.fresh (Nat.le_refl _))
noncomputable def ZdV (ta : TA) : TI := fun σ H R => ta σ H fun vs H1 => ∃ j : Int, vs = [.int j] ∧ -(2 ^ 62) ≤ j ∧ j < 2 ^ 62 ∧ R (Itr 0 j.toNat) H1
noncomputable def Zd8 (ta : TA) : TI := fun σ H R => ta σ H fun vs H1 => ∃ i j : Int, vs = [.int i, .int j] ∧ (-(2 ^ 62) ≤ i ∧ i < 2 ^ 62 ∧ -(2 ^ 62) ≤ j ∧ j < 2 ^ 62) ∧ R (Itr i (j - i).toNat) H1
theorem Gw {a : Expr} {ta : TA} {p pos : Pos} (hg : Gl X "range") (hm : X.mg "range" = none) (ha : PA X [a] ta) (hs : autoParam (starEach [a] X.env = [(false, eval a X.env)]) zz3._auto_1) : PI X tg (.Call (.Name "range" p) [a] [] pos) (ZdV ta) := by
 intro pins s σ H R I h
 refine Call_ (Kl I hg hm boot_range (PyProof.Rows.callWith_type1 (thn (ha pos pins s σ H _ I h) fun us s1 ⟨vs, H1, I1, r1, q1⟩ => ?_) hs rfl))
 obtain ⟨j, e, q1, q2, q⟩ := q1
 subst e
 cases r1 with
 | cons r rr =>
  cases rr
  obtain ⟨t, rfl⟩ := r
  exact call_range_1 (CF I1 (by omega) (by omega) q1 q2 (by simpa using q))
theorem Fh {a b : Expr} {ta : TA} {p pos : Pos} (hg : Gl X "range") (hm : X.mg "range" = none) (ha : PA X [a, b] ta) (hs : autoParam (starEach [a, b] X.env = [(false, eval a X.env), (false, eval b X.env)]) zz3._auto_1) (hs2 : autoParam (starEach [b] X.env = [(false, eval b X.env)]) zz3._auto_1) :
  PI X tg (.Call (.Name "range" p) [a, b] [] pos) (Zd8 ta) := by
 intro pins s σ H R I h
 refine Call_ (Kl I hg hm boot_range (PyProof.Rows.callWith_type1 (thn (ha pos pins s σ H _ I h) fun us s1 ⟨vs, H1, I1, r1, q1⟩ => ?_) (by rw [hs, hs2]) (by rw [hs2]; rfl)))
 obtain ⟨i, j, e, ⟨q1, q2, q3, q4⟩, q⟩ := q1
 subst e
 cases r1 with
 | cons r rr =>
  cases rr with
  | cons r' rr =>
   cases rr
   obtain ⟨t, rfl⟩ := r
   obtain ⟨t', rfl⟩ := r'
   exact call_range_2 (CF I1 q1 q2 q3 q4 q)
noncomputable def Zfy (wi : TI) (g : TG) (tb : TS) : TS := fun D σ H => wi σ H fun J H1 => ∃ W : Nat → Nat → St → Hp → Prop, (∃ m, W 0 m σ H1) ∧ ∀ i m σ H, W i m σ H →
 (J.stop i H ∧ D.nx σ H) ∨ (J.go i H ∧ ∃ N : St → Hp → Prop, (∀ σ' H', N σ' H' → ∃ m', m' < m ∧ W (i + 1) m' σ' H') ∧ ∀ x H', J.yld i H x H' → g x σ H' fun σ2 H2 => tb { D with nx := N, ct := N, bk := D.nx } σ2 H2)
noncomputable def Gx (fp : List Addr) (h : Heap) : List (Addr × Obj) := fp.filterMap fun b => (h.get? b).map fun o => (b, o)
theorem V7 {fp : List Addr} {h : Heap} {b : Addr} {o : Obj} (hb : b ∈ fp) (e : h.get? b = some o) : (b, o) ∈ Gx fp h := List.mem_filterMap.mpr ⟨b, hb, by rw [e]; rfl⟩
theorem Fu {fp : List Addr} {h : Heap} {p : Addr × Obj} (hp : p ∈ Gx fp h) : p.1 ∈ fp ∧ h.get? p.1 = some p.2 := by
 obtain ⟨b, hb, e⟩ := List.mem_filterMap.mp hp
 cases q : h.get? b with
 | none => rw [q] at e; cases e
 | some o =>
  rw [q] at e
  have e' : (b, o) = p := Option.some.inj e
  subst e'
  exact ⟨hb, q⟩
theorem Inv.pinned {pins : List (Addr × Obj)} {σ : St} {H : Hp} {s : Shared} {fp : List Addr} (I : Inv X pins σ H s) (hf : ∀ b ∈ fp, Lb X pins H b) (ho : ∀ b ∈ fp, ∃ o, s.heap.get? b = some o ∧ ∀ v, o.data ≠ .cell v) : Inv X (pins ++ Gx fp s.heap) σ H s :=
 I.KZ fun p hp => (List.mem_append.mp hp).elim (fun z => I.pin p (List.mem_append_right _ z)) fun z => by
  obtain ⟨hb, e⟩ := Fu z
  obtain ⟨f0, f1, f2, _⟩ := hf p.1 hb
  obtain ⟨o, e', d⟩ := ho p.1 hb
  rw [e] at e'; cases e'
  exact ⟨e, f0, f1, f2, d⟩
theorem Inv.Uq {pins pl : List (Addr × Obj)} {σ : St} {H : Hp} {s : Shared} (I : Inv X (pins ++ pl) σ H s) : Inv X pins σ H s := I.KZ fun p hp => I.pin p (List.mem_append_right _ (List.mem_append_left _ hp))
theorem CC {iter : Expr} {body : List Stmt} {wi : TI} {g : TG} {tb : TS} {pos : Pos} (hp : PassesOwn (model X.prog X.w) X.A X.env X.xe) (hc : X.calm = true) (hi : PI X tg iter wi) (hg : PG X tg g) (hb : PSs X body tb)
  (hs : autoParam (∀ x, foldedSetIterable iter X.env x = pure x) zz2._auto_1) : PS X (.For tg iter body [] pos) (Zfy wi g tb) := by
 intro pins s σ H D I h
 refine wpAny_For (thn (hi pins s σ H _ I h) fun v s1 h1 => thn h1 fun itv s2 h2 => ?_) hs
 obtain ⟨it, fp, tn, J, H2, e, I2, T, st2, f2, W, ⟨m0, w0⟩, turn⟩ := h2
 subst e
 have stat : ∀ {H' : Hp}, (∀ b ∈ fp, H' b = none) → ∀ b ∈ fp, Lb X pins H' b := fun hn b hb => ⟨hn b hb, (f2 b hb).2⟩
 refine codeAny_forLoop_any (fun n s' => ∃ i σ' H', Inv X pins σ' H' s' ∧ tn i s'.heap ∧ (∀ b ∈ fp, H' b = none) ∧ W i n σ' H') ?_ m0 ⟨0, σ, H2, I2, st2, fun b hb => (f2 b hb).1, w0⟩
 rintro n s3 ⟨i, σ3, H3, I3, st3, fr3, w3⟩
 rcases turn i n σ3 H3 w3 with ⟨stop, qn⟩ | ⟨go, N, hN, step⟩
 ·refine wpAny_passesOwn hp (thn (T.done X rfl rfl rfl hc i pins s3 σ3 H3 X.xe I3 (stat fr3) st3 stop) fun r s4 ⟨hr, I4⟩ => ?_)
  subst hr
  exact wpAny_execs_nil ⟨σ3, H3, I4, qn⟩
 ·refine wpAny_passesOwn hp (thn (T.item X rfl rfl rfl hc i pins s3 σ3 H3 X.xe I3 (stat fr3) st3 go) fun r s4 ⟨u, hr, h4⟩ => ?_)
  subst hr
  refine wpAny_passesOwn hp (thn h4 fun _ s5 ⟨x, H5, I5, r5, y5, st5, fr5⟩ => ?_)
  have I5' := I5.pinned (stat fr5) (T.obj _ _ st5)
  refine wpAny_passesOwn hp (thn (hg _ s5 σ3 H5 x u _ I5' r5 (step x H5 y5)) fun _ s6 ⟨σ6, H6, I6, q6⟩ => ?_)
  refine wpAny_passesOwn hp (thn (hb _ s6 σ6 H6 _ I6 q6) fun f s7 q7 => ?_)
  have again : ∀ {σ7 : St} {H7 : Hp}, Inv X (pins ++ Gx fp s5.heap) σ7 H7 s7 → N σ7 H7 → ∃ m, m < n ∧ ∃ i σ' H', Inv X pins σ' H' s7 ∧ tn i s7.heap ∧ (∀ b ∈ fp, H' b = none) ∧ W i m σ' H' := fun {σ7 H7} I7 n7 => by
   obtain ⟨m', hm, w7⟩ := hN σ7 H7 n7
   refine ⟨m', hm, i + 1, σ7, H7, I7.Uq, T.keep _ _ _ st5 fun b hb o e => (I7.pin (b, o) (List.mem_append_right _ (List.mem_append_right _ (V7 hb e)))).1, fun b hb => ?_, w7⟩
   obtain ⟨o, e, d⟩ := T.obj _ _ st5 b hb
   exact (I7.pin (b, o) (List.mem_append_right _ (List.mem_append_right _ (V7 hb e)))).2.1
  cases f with
  | next => obtain ⟨σ7, H7, I7, n7⟩ := q7; exact again I7 n7
  | cont => obtain ⟨σ7, H7, I7, n7⟩ := q7; exact again I7 n7
  | brk => obtain ⟨σ7, H7, I7, q7⟩ := q7; exact ⟨σ7, H7, I7.Uq, q7⟩
  | ret v => obtain ⟨x7, σ7, H7, I7, r7, q7⟩ := q7; exact ⟨x7, σ7, H7, I7.Uq, r7, q7⟩
end
theorem L0 {K : PySem.W.Frag} {a : Addr} {xs : List V} {g : TG} {tb : TS} {D : Ends} {σ : St} {H : Hp} (Pv : Nat → St → Hp → Prop) (h0 : Pv 0 σ H) (hl : ∀ i σ H, i ≤ xs.length → Pv i σ H → SqL K H a xs)
  (hs : ∀ i x σ H, xs[i]? = some x → Pv i σ H → g x σ H fun σ2 H2 => tb { D with nx := Pv (i + 1), ct := Pv (i + 1), bk := D.nx } σ2 H2) (hd : ∀ σ H, Pv xs.length σ H → D.nx σ H) :
  ∃ W : Nat → Nat → St → Hp → Prop, (∃ m, W 0 m σ H) ∧ ∀ i m σ H, W i m σ H →
   ((Itl K a).stop i H ∧ D.nx σ H) ∨ ((Itl K a).go i H ∧ ∃ N : St → Hp → Prop, (∀ σ' H', N σ' H' → ∃ m', m' < m ∧ W (i + 1) m' σ' H') ∧ ∀ x H', (Itl K a).yld i H x H' → g x σ H' fun σ2 H2 => tb { D with nx := N, ct := N, bk := D.nx } σ2 H2) := by
 refine ⟨fun i m σ H => m = xs.length - i ∧ i ≤ xs.length ∧ Pv i σ H, ⟨xs.length, by simp, Nat.zero_le _, h0⟩, ?_⟩
 rintro i m σ H ⟨rfl, hi, p⟩
 have q := hl i σ H hi p
 by_cases hlt : i < xs.length
 ·refine .inr ⟨⟨xs, xs[i], q, by simp [hlt]⟩, Pv (i + 1), fun σ' H' p' => ⟨xs.length - (i + 1), by omega, rfl, hlt, p'⟩, fun x H' y => ?_⟩
  obtain ⟨e, y⟩ := y
  subst e
  exact hs i x σ _ (y xs q) p
 ·have e : i = xs.length := by omega
  subst e
  exact .inl ⟨⟨xs, q, Nat.le_refl _⟩, hd σ H p⟩
theorem S2 {K : PySem.W.Frag} {a : Addr} {xs : List V} {g : TG} {tb : TS} {D : Ends} {σ : St} {H : Hp} (Pv : Nat → St → Hp → Prop) (h0 : Pv 0 σ H) (hl : ∀ i σ H, i ≤ xs.length → Pv i σ H → SqT K H a xs)
  (hs : ∀ i x σ H, xs[i]? = some x → Pv i σ H → g x σ H fun σ2 H2 => tb { D with nx := Pv (i + 1), ct := Pv (i + 1), bk := D.nx } σ2 H2) (hd : ∀ σ H, Pv xs.length σ H → D.nx σ H) :
  ∃ W : Nat → Nat → St → Hp → Prop, (∃ m, W 0 m σ H) ∧ ∀ i m σ H, W i m σ H →
   ((Itt K a).stop i H ∧ D.nx σ H) ∨ ((Itt K a).go i H ∧ ∃ N : St → Hp → Prop, (∀ σ' H', N σ' H' → ∃ m', m' < m ∧ W (i + 1) m' σ' H') ∧ ∀ x H', (Itt K a).yld i H x H' → g x σ H' fun σ2 H2 => tb { D with nx := N, ct := N, bk := D.nx } σ2 H2) := by
 refine ⟨fun i m σ H => m = xs.length - i ∧ i ≤ xs.length ∧ Pv i σ H, ⟨xs.length, by simp, Nat.zero_le _, h0⟩, ?_⟩
 rintro i m σ H ⟨rfl, hi, p⟩
 have q := hl i σ H hi p
 by_cases hlt : i < xs.length
 ·refine .inr ⟨⟨xs, xs[i], q, by simp [hlt]⟩, Pv (i + 1), fun σ' H' p' => ⟨xs.length - (i + 1), by omega, rfl, hlt, p'⟩, fun x H' y => ?_⟩
  obtain ⟨e, y⟩ := y
  subst e
  exact hs i x σ _ (y xs q) p
 ·have e : i = xs.length := by omega
  subst e
  exact .inl ⟨⟨xs, q, Nat.le_refl _⟩, hd σ H p⟩
theorem Ex {lo : Int} {n : Nat} {g : TG} {tb : TS} {D : Ends} {σ : St} {H : Hp} (Pv : Nat → St → Hp → Prop) (h0 : Pv 0 σ H)
  (hs : ∀ i σ H, i < n → Pv i σ H → g (.int (lo + i)) σ H fun σ2 H2 => tb { D with nx := Pv (i + 1), ct := Pv (i + 1), bk := D.nx } σ2 H2) (hd : ∀ σ H, Pv n σ H → D.nx σ H) :
  ∃ W : Nat → Nat → St → Hp → Prop, (∃ m, W 0 m σ H) ∧ ∀ i m σ H, W i m σ H →
   ((Itr lo n).stop i H ∧ D.nx σ H) ∨ ((Itr lo n).go i H ∧ ∃ N : St → Hp → Prop, (∀ σ' H', N σ' H' → ∃ m', m' < m ∧ W (i + 1) m' σ' H') ∧ ∀ x H', (Itr lo n).yld i H x H' → g x σ H' fun σ2 H2 => tb { D with nx := N, ct := N, bk := D.nx } σ2 H2) := by
 refine ⟨fun i m σ H => m = n - i ∧ i ≤ n ∧ Pv i σ H, ⟨n, by simp, Nat.zero_le _, h0⟩, ?_⟩
 rintro i m σ H ⟨rfl, hi, p⟩
 by_cases hlt : i < n
 ·refine .inr ⟨hlt, Pv (i + 1), fun σ' H' p' => ⟨n - (i + 1), by omega, rfl, hlt, p'⟩, fun x H' y => ?_⟩
  obtain ⟨e, y⟩ := y
  subst e y
  exact hs i σ _ hlt p
 ·have e : i = n := by omega
  subst e
  exact .inl ⟨Nat.le_refl _, hd σ H p⟩
end L2
namespace L2
open PySem PySem.Spec PyProof.Rows
noncomputable abbrev R2 := V → V → Hp → VK → Prop
noncomputable def OpR (X : Cx) (f : Value → Value → Sem Value) (r : R2) : Prop :=
 ∀ (pins : List (Addr × Obj)) (s : Shared) (σ : St) (H : Hp) (x y : V) (v u : Value) (Q : VK), Inv X pins σ H s → RelV x v → RelV y u → r x y H Q →
  wpAny (model X.prog X.w) X.A (f v u) (EP X pins σ Q) X.xe s
noncomputable def UnR (X : Cx) (f : Value → Sem Value) (r : V → Hp → VK → Prop) : Prop :=
 ∀ (pins : List (Addr × Obj)) (s : Shared) (σ : St) (H : Hp) (x : V) (v : Value) (Q : VK), Inv X pins σ H s → RelV x v → r x H Q →
  wpAny (model X.prog X.w) X.A (f v) (EP X pins σ Q) X.xe s
noncomputable def VI (X : Cx) (f : Value) (r : List V → Hp → VK → Prop) : Prop :=
 ∀ (pins : List (Addr × Obj)) (s : Shared) (σ : St) (H : Hp) (xs : List V) (us : List Value) (Q : VK), Inv X pins σ H s → Vals xs us → r xs H Q →
  wpAny (model X.prog X.w) X.A (call f us) (EP X pins σ Q) X.xe s
noncomputable def Zfn (X : Cx) (r : V → Hp → (Bool → Hp → Prop) → Prop) : Prop :=
 ∀ (pins : List (Addr × Obj)) (s : Shared) (σ : St) (H : Hp) (x : V) (v : Value) (Q : Bool → Hp → Prop), Inv X pins σ H s → RelV x v → r x H Q →
  wpAny (model X.prog X.w) X.A (truthy v) (TP X pins σ Q) X.xe s
noncomputable def tOp (r : R2) (ta tb : TE) : TE := fun σ H Q => ta σ H fun x H1 => tb σ H1 fun y H2 => r x y H2 Q
noncomputable def tUn (r : V → Hp → VK → Prop) (ta : TE) : TE := fun σ H Q => ta σ H fun x H1 => r x H1 Q
noncomputable def rI (C : Int → Int → Prop) (g : Int → Int → V) : R2 := fun x y H Q => ∃ i j, x = .int i ∧ y = .int j ∧ C i j ∧ Q (g i j) H
noncomputable def rI0 (g : Int → Int → V) : R2 := fun x y H Q => ∃ i j, x = .int i ∧ y = .int j ∧ Q (g i j) H
noncomputable def rU (g : Int → V) : V → Hp → VK → Prop := fun x H Q => ∃ i, x = .int i ∧ Q (g i) H
section
variable {X : Cx} {a b c : Expr} {ta tb tc : TE} {pos : Pos}
theorem Zeg (ha : PE X a ta) (hb : PE X b tb) {pins : List (Addr × Obj)} {s : Shared} {σ : St} {H : Hp} {R : V → V → Hp → Prop} (I : Inv X pins σ H s)
  (h : ta σ H fun x H1 => tb σ H1 fun y H2 => R x y H2) {Q : Value → Shared → Prop} {f : Value → Value → Sem Value}
  (hf : ∀ v u s2 x y H2, Inv X pins σ H2 s2 → RelV x v → RelV y u → R x y H2 → wpAny (model X.prog X.w) X.A (f v u) Q X.xe s2) :
  wpAny (model X.prog X.w) X.A (eval a X.env) (fun v s₁ => wpAny (model X.prog X.w) X.A (eval b X.env) (fun u s₂ => wpAny (model X.prog X.w) X.A (f v u) Q X.xe s₂) X.xe s₁) X.xe s := by
 refine thn (ha pins s σ H _ I h) fun v s1 ⟨x, H1, I1, r1, q1⟩ => ?_
 refine thn (hb pins s1 σ H1 _ I1 q1) fun u s2 ⟨y, H2, I2, r2, q2⟩ => ?_
 exact hf v u s2 x y H2 I2 r1 r2 q2
theorem Zc4 {op : Operator} {r : R2} (ho : OpR X (binaryOp op) r) (ha : PE X a ta) (hb : PE X b tb) : PE X (.BinOp a op b pos) (tOp r ta tb) := by
 intro pins s σ H Q I h
 exact wpAny_BinOp (Zeg ha hb I h fun v u s2 x y H2 I2 rx ry q => ho pins s2 σ H2 x y v u Q I2 rx ry q)
theorem ZdH {op : UnaryOp} {r : V → Hp → VK → Prop} (ho : UnR X (unaryOp op) r) (ha : PE X a ta) : PE X (.UnaryOp op a pos) (tUn r ta) := by
 intro pins s σ H Q I h
 exact UnaryOp_ (thn (ha pins s σ H _ I h) fun v s1 ⟨x, H1, I1, r1, q1⟩ => ho pins s1 σ H1 x v Q I1 r1 q1)
theorem opI {f : Value → Value → Sem Value} {C : Int → Int → Prop} {g : Int → Int → Int}
  (rule : ∀ (i j : Int) (t u : Tok) (s : Shared) (Q : Value → Shared → Prop) (E : Value → Shared → Prop), C i j → Q (.int (g i j) s.toks) { s with toks := s.toks + 1 } → wpAny (model X.prog X.w) X.A (f (.int i t) (.int j u)) Q E s) :
  OpR X f (rI C fun i j => .int (g i j)) := by
 intro pins s σ H x y v u Q I rx ry h
 obtain ⟨i, j, rfl, rfl, hc, q⟩ := h
 obtain ⟨t, rfl⟩ := rx
 obtain ⟨t', rfl⟩ := ry
 exact rule i j t t' s _ _ hc ⟨.int (g i j), H, I.tok _, ⟨_, rfl⟩, q⟩
theorem Zew {f : Value → Value → Sem Value} {g : Int → Int → Int}
  (rule : ∀ (i j : Int) (t u : Tok) (s : Shared) (Q : Value → Shared → Prop) (E : Value → Shared → Prop), Q (.int (g i j) s.toks) { s with toks := s.toks + 1 } → wpAny (model X.prog X.w) X.A (f (.int i t) (.int j u)) Q E s) :
  OpR X f (rI0 fun i j => .int (g i j)) := by
 intro pins s σ H x y v u Q I rx ry h
 obtain ⟨i, j, rfl, rfl, q⟩ := h
 obtain ⟨t, rfl⟩ := rx
 obtain ⟨t', rfl⟩ := ry
 exact rule i j t t' s _ _ ⟨.int (g i j), H, I.tok _, ⟨_, rfl⟩, q⟩
theorem ZcL {f : Value → Value → Sem Value} {g : Int → Int → Bool}
  (rule : ∀ (i j : Int) (t u : Tok) (s : Shared) (Q : Value → Shared → Prop) (E : Value → Shared → Prop), Q (.bool (g i j)) s → wpAny (model X.prog X.w) X.A (f (.int i t) (.int j u)) Q E s) :
  OpR X f (rI0 fun i j => .bl (g i j)) := by
 intro pins s σ H x y v u Q I rx ry h
 obtain ⟨i, j, rfl, rfl, q⟩ := h
 obtain ⟨t, rfl⟩ := rx
 obtain ⟨t', rfl⟩ := ry
 exact rule i j t t' s _ _ ⟨.bl (g i j), H, I, rfl, q⟩
noncomputable def Zc3 (i j : Int) : Prop := 0 < j ∧ j < 1073741824
noncomputable def ZfN (i j : Int) : Prop := j ≠ 0 ∧ j.natAbs < 1073741824
noncomputable def T4 (i j : Int) : Prop := 0 ≤ j ∧ j ≤ 1000000 ∧ i.natAbs < 2 ^ 64
noncomputable def Tr (i j : Int) : Prop := (-(2 ^ 64) < i ∧ i < 2 ^ 64) ∨ (-(2 ^ 64) < j ∧ j < 2 ^ 64)
theorem Tr.ok {i j : Int} (h : Tr i j) : IntMulOk i j := by
 rcases h with ⟨h1, h2⟩ | ⟨h1, h2⟩
 ·exact .of_left (intBits_le_64 h1 h2)
 ·exact .of_right (intBits_le_64 h1 h2)
theorem Zb7 : OpR X (binaryOp .Add) (rI0 fun i j => .int (i + j)) := Zew fun _ _ _ _ _ _ _ q => add_int q
theorem TH : OpR X (binaryOp .Sub) (rI0 fun i j => .int (i - j)) := Zew fun _ _ _ _ _ _ _ q => sub_int q
theorem ZaW : OpR X (binaryOp .Mult) (rI Tr fun i j => .int (i * j)) := opI fun _ _ _ _ _ _ _ hc q => mul_int q hc.ok
theorem S8 : OpR X (binaryOp .FloorDiv) (rI Zc3 fun i j => .int (i / j)) := opI fun i j _ _ _ _ _ hc q => by
 have h1 : (0 : Int) < j := hc.1
 have h2 : j < 1073741824 := hc.2
 exact floordiv_int (by omega) (by rw [Int.fdiv_eq_ediv_of_nonneg i (by omega)]; exact q) (.inl (PyProof.noPylong_small (by omega)))
theorem ZaJ : OpR X (binaryOp .Mod) (rI (fun _ j => 0 < j) fun i j => .int (i % j)) := opI fun i j _ _ _ _ _ hc q => by
 have h1 : (0 : Int) < j := hc
 exact mod_int' (by omega) (by rw [Int.fmod_eq_emod_of_nonneg i (by omega)]; exact q)
theorem ZaN : OpR X (binaryOp .Pow) (rI T4 fun i j => .int (i ^ j.toNat)) := opI fun _ _ _ _ _ _ _ hc q => pow_int_small hc.1 hc.2.1 hc.2.2 q
theorem unI {f : Value → Sem Value} {g : Int → Int}
  (rule : ∀ (i : Int) (t : Tok) (s : Shared) (Q : Value → Shared → Prop) (E : Value → Shared → Prop), Q (.int (g i) s.toks) { s with toks := s.toks + 1 } → wpAny (model X.prog X.w) X.A (f (.int i t)) Q E s) :
  UnR X f (rU fun i => .int (g i)) := by
 intro pins s σ H x v Q I rx h
 obtain ⟨i, rfl, q⟩ := h
 obtain ⟨t, rfl⟩ := rx
 exact rule i t s _ _ ⟨.int (g i), H, I.tok _, ⟨_, rfl⟩, q⟩
theorem TJ : UnR X (unaryOp .USub) (rU fun i => .int (-i)) := unI fun _ _ _ _ _ q => neg_int q
end
noncomputable def Zem : V → V → Bool
 | .non, .non => true | .non, .int _ => true | .int _, .non => true | .non, .bl _ => true | .bl _, .non => true | .non, .str _ => true | .str _, .non => true
 | .int _, .int _ => true | .bl _, .bl _ => true | .str _, .str _ => true | .byt _, .byt _ => true
 | .int _, .str _ => true | .str _, .int _ => true | .bl _, .str _ => true | .str _, .bl _ => true
 | _, _ => false
noncomputable def rEq : R2 := fun x y H Q => Zem x y = true ∧ Q (.bl (decide (x = y))) H
noncomputable def rNe : R2 := fun x y H Q => Zem x y = true ∧ Q (.bl (!decide (x = y))) H
theorem E3 {i j : Int} : decide (V.int i = V.int j) = (i == j) := by
 rw [Bool.eq_iff_iff]
 simp
theorem Px {i j : Bool} : decide (V.bl i = V.bl j) = (i == j) := by
 rw [Bool.eq_iff_iff]
 simp
theorem Ue {i j : Str} : decide (V.str i = V.str j) = (i == j) := by
 rw [Bool.eq_iff_iff]
 simp
theorem Ft {i j : Array UInt8} : decide (V.byt i = V.byt j) = (i.toList == j.toList) := by
 rw [Bool.eq_iff_iff]
 cases i
 cases j
 simp
section
variable {X : Cx} {a b c : Expr} {ta tb tc : TE} {pos : Pos}
theorem ZX {pins : List (Addr × Obj)} {σ : St} {H : Hp} {s : Shared} {Q : VK} {k k' : Bool} (I : Inv X pins σ H s) (q : Q (.bl k) H) (e : k = k') : EP X pins σ Q (.bool k') s := by
 subst e
 exact ⟨.bl k, H, I, rfl, q⟩
theorem ZdO : OpR X (compareOp .Eq) rEq := by
 intro pins s σ H x y v u Q I rx ry h
 obtain ⟨hs, q⟩ := h
 cases x with
 | non =>
  cases rx
  cases y with
  | non => cases ry; exact PySem.EqNone.eq_none_none (ZX I q (by simp))
  | bl j => cases ry; exact PySem.EqNone.eq_none_bool (ZX I q (by simp))
  | int j => obtain ⟨t', rfl⟩ := ry; exact PySem.EqNone.eq_none_int (ZX I q (by simp))
  | str j => obtain ⟨t', rfl⟩ := ry; exact PySem.EqNone.eq_none_str (ZX I q (by simp))
  | _ => exact absurd (show false = true from hs) Bool.false_ne_true
 | bl i =>
  cases rx
  cases y with
  | non => cases ry; exact PySem.EqNone.eq_bool_none (ZX I q (by simp))
  | bl j => cases ry; exact eq_bool (ZX I q Px)
  | str j => obtain ⟨t', rfl⟩ := ry; exact PySem.EqMixed.eq_bool_str (ZX I q (by simp))
  | _ => exact absurd (show false = true from hs) Bool.false_ne_true
 | int i =>
  obtain ⟨t, rfl⟩ := rx
  cases y with
  | non => cases ry; exact PySem.EqNone.eq_int_none (ZX I q (by simp))
  | int j => obtain ⟨t', rfl⟩ := ry; exact eq_int (ZX I q E3)
  | str j => obtain ⟨t', rfl⟩ := ry; exact PySem.EqMixed.eq_int_str (ZX I q (by simp))
  | _ => exact absurd (show false = true from hs) Bool.false_ne_true
 | str i =>
  obtain ⟨t, rfl⟩ := rx
  cases y with
  | non => cases ry; exact PySem.EqNone.eq_str_none (ZX I q (by simp))
  | bl j => cases ry; exact PySem.EqMixed.eq_str_bool (ZX I q (by simp))
  | int j => obtain ⟨t', rfl⟩ := ry; exact PySem.EqMixed.eq_str_int (ZX I q (by simp))
  | str j => obtain ⟨t', rfl⟩ := ry; exact eq_str (ZX I q Ue)
  | _ => exact absurd (show false = true from hs) Bool.false_ne_true
 | byt i =>
  obtain ⟨t, rfl⟩ := rx
  cases y with
  | byt j => obtain ⟨t', rfl⟩ := ry; exact PySem.W.eq_bytes (ZX I q Ft)
  | _ => exact absurd (show false = true from hs) Bool.false_ne_true
 | _ => cases y <;> exact absurd (show false = true from hs) Bool.false_ne_true
theorem Zde : OpR X (compareOp .NotEq) rNe := by
 intro pins s σ H x y v u Q I rx ry h
 obtain ⟨hs, q⟩ := h
 cases x with
 | non =>
  cases rx
  cases y with
  | non => cases ry; exact PySem.EqNone.ne_none_none (ZX I q (by simp))
  | bl j => cases ry; exact PySem.EqNone.ne_none_bool (ZX I q (by simp))
  | int j => obtain ⟨t', rfl⟩ := ry; exact PySem.EqNone.ne_none_int (ZX I q (by simp))
  | str j => obtain ⟨t', rfl⟩ := ry; exact PySem.EqNone.ne_none_str (ZX I q (by simp))
  | _ => exact absurd (show false = true from hs) Bool.false_ne_true
 | bl i =>
  cases rx
  cases y with
  | non => cases ry; exact PySem.EqNone.ne_bool_none (ZX I q (by simp))
  | bl j => cases ry; exact ne_bool (ZX I q (congrArg not Px))
  | str j => obtain ⟨t', rfl⟩ := ry; exact PySem.EqMixed.ne_bool_str (ZX I q (by simp))
  | _ => exact absurd (show false = true from hs) Bool.false_ne_true
 | int i =>
  obtain ⟨t, rfl⟩ := rx
  cases y with
  | non => cases ry; exact PySem.EqNone.ne_int_none (ZX I q (by simp))
  | int j => obtain ⟨t', rfl⟩ := ry; exact ne_int (ZX I q (congrArg not E3))
  | str j => obtain ⟨t', rfl⟩ := ry; exact PySem.EqMixed.ne_int_str (ZX I q (by simp))
  | _ => exact absurd (show false = true from hs) Bool.false_ne_true
 | str i =>
  obtain ⟨t, rfl⟩ := rx
  cases y with
  | non => cases ry; exact PySem.EqNone.ne_str_none (ZX I q (by simp))
  | bl j => cases ry; exact PySem.EqMixed.ne_str_bool (ZX I q (by simp))
  | int j => obtain ⟨t', rfl⟩ := ry; exact PySem.EqMixed.ne_str_int (ZX I q (by simp))
  | str j => obtain ⟨t', rfl⟩ := ry; exact ne_str (ZX I q (congrArg not Ue))
  | _ => exact absurd (show false = true from hs) Bool.false_ne_true
 | byt i =>
  obtain ⟨t, rfl⟩ := rx
  cases y with
  | byt j => obtain ⟨t', rfl⟩ := ry; exact PySem.W.ne_bytes (ZX I q (congrArg not Ft))
  | _ => exact absurd (show false = true from hs) Bool.false_ne_true
 | _ => cases y <;> exact absurd (show false = true from hs) Bool.false_ne_true
theorem Zeh : OpR X (compareOp .Lt) (rI0 fun i j => .bl (decide (i < j))) := ZcL fun _ _ _ _ _ _ _ q => lt_int q
theorem ZdL : OpR X (compareOp .LtE) (rI0 fun i j => .bl (decide (i ≤ j))) := ZcL fun _ _ _ _ _ _ _ q => le_int q
theorem Zd9 : OpR X (compareOp .Gt) (rI0 fun i j => .bl (decide (j < i))) := ZcL fun _ _ _ _ _ _ _ q => gt_int q
theorem ZdA : OpR X (compareOp .GtE) (rI0 fun i j => .bl (decide (j ≤ i))) := ZcL fun _ _ _ _ _ _ _ q => ge_int q
noncomputable def isObj : HO → Bool
 | .lst _ => true
 | .ins _ _ _ => true
 | _ => false
theorem Pz (b : Expr) {op : CmpOp} (h : autoParam (op ≠ .In) zz1._auto_1) (h2 : autoParam (op ≠ .NotIn) zz1._auto_1) : behindInMarks op b = false := by
 have e1 : (op == CmpOp.In) = false := by cases op <;> first | rfl | exact absurd rfl h
 have e2 : (op == CmpOp.NotIn) = false := by cases op <;> first | rfl | exact absurd rfl h2
 cases b <;> simp [behindInMarks, e1, e2]
theorem Sz {op : CmpOp} {r : R2} (ho : OpR X (compareOp op) r) (ha : PE X a ta) (hb : PE X b tb) (hm : behindInMarks op b = false) : PE X (.Compare a [op] [b] pos) (tOp r ta tb) := by
 intro pins s σ H Q I h
 exact wpAny_Compare1 (Zeg ha hb I h fun v u s2 x y H2 I2 rx ry q => ho pins s2 σ H2 x y v u Q I2 rx ry q) hm
noncomputable def Zcq (t : TE) : TT := fun σ H Q => t σ H fun x H' => ∃ k, x = .bl k ∧ Q k H'
theorem Sk {op : CmpOp} {r : R2} (ho : OpR X (compareOp op) r) (ha : PE X a ta) (hb : PE X b tb) (hm : behindInMarks op b = false) : PT X (.Compare a [op] [b] pos) (Zcq (tOp r ta tb)) := by
 intro pins s σ H Q I h
 refine wpAny_isTrue_Compare1 (thn (ha pins s σ H _ I h) fun v s1 ⟨x, H1, I1, r1, q1⟩ => thn (hb pins s1 σ H1 _ I1 q1) fun u s2 ⟨y, H2, I2, r2, q2⟩ =>
  thn (ho pins s2 σ H2 x y v u _ I2 r1 r2 q2) fun c s3 ⟨z, H3, I3, r3, k, e, q3⟩ => ?_) hm
 subst e
 cases r3
 exact wpAny_truthy_bool ⟨H3, I3, q3⟩
noncomputable def Hc (r r' : R2) (ta tb tc : TE) : TE := fun σ H Q => ta σ H fun x H1 => tb σ H1 fun y H2 => r x y H2 fun z H3 => ∃ k, z = .bl k ∧
 (if k = true then tc σ H3 fun w' H4 => r' y w' H4 Q else Q (.bl false) H3)
theorem Ni {op op' : CmpOp} {r r' : R2} (ho : OpR X (compareOp op) r) (ho' : OpR X (compareOp op') r') (ha : PE X a ta) (hb : PE X b tb) (hc : PE X c tc)
  (hm : autoParam (lastMarks [op, op'] [b, c] = false) zz4._auto_1) : PE X (.Compare a [op, op'] [b, c] pos) (Hc r r' ta tb tc) := by
 intro pins s σ H Q I h
 refine Compare_chain (thn (ha pins s σ H _ I h) fun v s1 ⟨x, H1, I1, r1, q1⟩ => chain_link (thn (hb pins s1 σ H1 _ I1 q1) fun u s2 ⟨y, H2, I2, r2, q2⟩ =>
  thn (ho pins s2 σ H2 x y v u _ I2 r1 r2 q2) fun d s3 ⟨z, H3, I3, r3, k, e, q3⟩ => ?_)) hm
 subst e
 cases r3
 refine wpAny_truthy_bool ?_
 cases k with
 | false => exact ite_ff ⟨.bl false, H3, I3, rfl, q3⟩
 | true => exact ite_tt (chain_last (thn (hc pins s3 σ H3 _ I3 q3) fun w' s4 ⟨z', H4, I4, r4, q4⟩ => ho' pins s4 σ H4 y z' u w' Q I4 r2 r4 q4))
theorem MN {op op' : CmpOp} {r r' : R2} (ho : OpR X (compareOp op) r) (ho' : OpR X (compareOp op') r') (ha : PE X a ta) (hb : PE X b tb) (hc : PE X c tc)
  (hm : autoParam (lastMarks [op, op'] [b, c] = false) zz4._auto_1) : PT X (.Compare a [op, op'] [b, c] pos) (Zcq (Hc r r' ta tb tc)) := by
 intro pins s σ H Q I h
 refine isTrue_chain (thn (ha pins s σ H _ I h) fun v s1 ⟨x, H1, I1, r1, q1⟩ => test_link (thn (hb pins s1 σ H1 _ I1 q1) fun u s2 ⟨y, H2, I2, r2, q2⟩ =>
  thn (ho pins s2 σ H2 x y v u _ I2 r1 r2 q2) fun d s3 ⟨z, H3, I3, r3, k, e, q3⟩ => ?_)) hm
 subst e
 cases r3
 refine wpAny_truthy_bool ?_
 cases k with
 | false =>
  obtain ⟨k', e', q'⟩ := q3
  cases e'
  exact ite_ff ⟨H3, I3, q'⟩
 | true =>
  refine ite_tt (test_last (thn (hc pins s3 σ H3 _ I3 q3) fun w' s4 ⟨z', H4, I4, r4, q4⟩ => thn (ho' pins s4 σ H4 y z' u w' _ I4 r2 r4 q4) fun d' s5 ⟨z2, H5, I5, r5, k2, e2, q5⟩ => ?_))
  subst e2
  cases r5
  exact wpAny_truthy_bool ⟨H5, I5, q5⟩
noncomputable def ZeY (K : PySem.W.Frag) (x : V) (H : Hp) (k : Bool) : Prop :=
 match x with
 | .non => k = false
 | .bl b => k = b
 | .int i => k = (i != 0)
 | .str y => y.length ≤ sizeLine ∧ k = ((y.length : Int) != 0)
 | .byt y => y.size ≤ sizeLine ∧ k = ((y.size : Int) != 0)
 | .ref p => (∃ xs, SqL K H p xs ∧ k = !xs.isEmpty) ∨ (∃ xs, SqT K H p xs ∧ k = !xs.isEmpty) ∨ ∃ kvs, H p = some (.dK kvs) ∧ k = !kvs.isEmpty
 | _ => False
theorem Eh {κ : Type} {kvs : List (κ × V)} {vs : List (κ × Value)} (r : KV kvs vs) : (!vs.isEmpty) = !kvs.isEmpty := by
 cases r <;> rfl
theorem Wj {xs : List V} {its : List Value} (r : Vals xs its) : (!its.toArray.isEmpty) = !xs.isEmpty := by
 cases r <;> simp
theorem Wv : (sizeLine : Nat) < 2 ^ 63 := by rw [sizeLine_eq]; decide
theorem Zbl : Zfn X (fun x H Q => ∃ k, ZeY X.K x H k ∧ Q k H) := by
 intro pins s σ H x v Q I rx h
 obtain ⟨k, e, q⟩ := h
 have hl := Wv
 have hs : sizeLine = 16777216 := sizeLine_eq
 cases x with
 | non =>
  cases rx
  have e' : k = false := e
  subst e'
  exact truthy_none ⟨H, I, q⟩
 | bl b =>
  cases rx
  have e' : k = b := e
  subst e'
  exact wpAny_truthy_bool ⟨H, I, q⟩
 | int i =>
  obtain ⟨t, rfl⟩ := rx
  have e' : k = (i != 0) := e
  subst e'
  exact PySem.P.truthy_int ⟨H, I, q⟩
 | str y =>
  obtain ⟨t, rfl⟩ := rx
  obtain ⟨hy, e'⟩ : y.length ≤ sizeLine ∧ k = ((y.length : Int) != 0) := e
  subst e'
  exact PySem.P.truthy_str (by omega) ⟨H, I.tok _, q⟩
 | byt y =>
  obtain ⟨t, rfl⟩ := rx
  obtain ⟨hy, e'⟩ : y.size ≤ sizeLine ∧ k = ((y.size : Int) != 0) := e
  subst e'
  exact PySem.W.truthy_bytes (by omega) ⟨H, I.tok _, q⟩
 | ref p =>
  cases rx
  have e' : (∃ xs, SqL X.K H p xs ∧ k = !xs.isEmpty) ∨ (∃ xs, SqT X.K H p xs ∧ k = !xs.isEmpty) ∨ ∃ kvs, H p = some (.dK kvs) ∧ k = !kvs.isEmpty := e
  rcases e' with ⟨xs, hx, e'⟩ | ⟨xs, hx, e'⟩ | ⟨kvs, hx, e'⟩
  ·subst e'
   obtain ⟨its, r, pl, hz⟩ := I.list hx
   have hlen := r.length
   exact wpAny_truthy_list pl.isList (by simp only [List.size_toArray]; omega) ⟨H, I.tok _, by rw [Wj r]; exact q⟩
  ·subst e'
   obtain ⟨its, r, pl, hz⟩ := I.tuple hx
   have hlen := r.length
   exact truthy_tuple pl (by simp only [List.size_toArray]; omega) ⟨H, I.tok _, by rw [Wj r]; exact q⟩
  ·subst e'
   obtain ⟨hz, hS, vs, r, m⟩ : kvs.length ≤ sizeLine ∧ (p == sysModules) = false ∧ ∃ vs, KV kvs vs ∧ s.heap.DictOf (Qx X.prog X.w) p vs := I.hok p _ hx
   have hlen : kvs.length = vs.length := Paired.length r
   exact wpAny_truthy_dict hS m (by omega) ⟨H, I.tok _, by rw [Eh r]; exact q⟩
 | _ => exact (show False from e).elim
theorem Nz (ha : PE X a ta) (he : ∀ whole, isTrue a X.env whole = (do let v ← whole; standAt a.pos; holding [v] (truthy v))) :
  PT X a (fun σ H Q => ta σ H fun x H' => ∃ k, ZeY X.K x H' k ∧ Q k H') := by
 intro pins s σ H Q I h
 exact isTrue_plain (thn (ha pins s σ H _ I h) fun v s1 ⟨x, H1, I1, r1, q1⟩ => Zbl pins s1 σ H1 x v Q I1 r1 q1) (he _)
noncomputable def ZcS (b : Expr) : Prop := ∀ o i, subscripted b false o i = operate [o, i] (getItem o i)
theorem vals1 {x : V} {us : List Value} (r : Vals [x] us) : ∃ u, us = [u] ∧ RelV x u := by
 cases r with
 | cons r1 r2 => cases r2; exact ⟨_, rfl, r1⟩
theorem vals2 {x y : V} {us : List Value} (r : Vals [x, y] us) : ∃ u w', us = [u, w'] ∧ RelV x u ∧ RelV y w' := by
 cases r with
 | cons r1 r2 =>
  cases r2 with
  | cons r3 r4 => cases r4; exact ⟨_, _, rfl, r1, r3⟩
theorem L8 : VI X (.builtin "abs") (fun xs H Q => ∃ i, xs = [.int i] ∧ Q (.int (if i < 0 then -i else i)) H) := by
 intro pins s σ H xs us Q I r h
 obtain ⟨i, rfl, q⟩ := h
 obtain ⟨u, rfl, t, rfl⟩ := vals1 r
 exact call_abs_int fun u tk => ⟨.int (if i < 0 then -i else i), H, I.tok _, ⟨_, rfl⟩, q⟩
theorem EH (hc : X.calm = true) : VI X (.builtin "max") (fun xs H Q => ∃ i j, xs = [.int i, .int j] ∧ Q (.int (if j > i then j else i)) H) := by
 intro pins s σ H xs us Q I r h
 obtain ⟨i, j, rfl, q⟩ := h
 obtain ⟨u, w', rfl, ⟨t, rfl⟩, ⟨t', rfl⟩⟩ := vals2 r
 refine max_two_ints (I.ok.hd hc) fun h' tk k => ⟨_, H, I.kept k, ?_, q⟩
 by_cases hj : j > i
 ·rw [if_pos hj, if_pos hj]; exact ⟨_, rfl⟩
 ·rw [if_neg hj, if_neg hj]; exact ⟨_, rfl⟩
theorem Fq (hc : X.calm = true) : VI X (.builtin "min") (fun xs H Q => ∃ i j, xs = [.int i, .int j] ∧ Q (.int (if j < i then j else i)) H) := by
 intro pins s σ H xs us Q I r h
 obtain ⟨i, j, rfl, q⟩ := h
 obtain ⟨u, w', rfl, ⟨t, rfl⟩, ⟨t', rfl⟩⟩ := vals2 r
 refine min_two_ints (I.ok.hd hc) fun h' tk k => ⟨_, H, I.kept k, ?_, q⟩
 by_cases hj : j < i
 ·rw [if_pos hj, if_pos hj]; exact ⟨_, rfl⟩
 ·rw [if_neg hj, if_neg hj]; exact ⟨_, rfl⟩
theorem Dl : VI X (.type "bool") (fun xs H Q => (∃ i, xs = [.int i] ∧ Q (.bl (i != 0)) H) ∨ ∃ k, xs = [.bl k] ∧ Q (.bl k) H) := by
 intro pins s σ H xs us Q I r h
 rcases h with ⟨i, rfl, q⟩ | ⟨k, rfl, q⟩
 ·obtain ⟨u, rfl, t, rfl⟩ := vals1 r
  exact call_bool_int ⟨.bl (i != 0), H, I, rfl, q⟩
 ·obtain ⟨u, rfl, r1⟩ := vals1 r
  cases r1
  exact call_bool_bool ⟨.bl k, H, I, rfl, q⟩
theorem GK : VI X (.type "str") (fun xs H Q => ∃ i, xs = [.int i] ∧ i.natAbs.log2 < 1920 ∧ Q (.str (toString i)) H) := by
 intro pins s σ H xs us Q I r h
 obtain ⟨i, rfl, hz, q⟩ := h
 obtain ⟨u, rfl, t, rfl⟩ := vals1 r
 exact PySem.P.str_of_int hz ⟨.str _, H, I.tok _, ⟨_, rfl⟩, q⟩
noncomputable def Zf1 (K : PySem.W.Frag) (x : V) (H : Hp) (n : Nat) : Prop :=
 match x with
 | .str y => y.length ≤ sizeLine ∧ n = y.length
 | .byt y => y.size ≤ sizeLine ∧ n = y.size
 | .ref p => (∃ xs, SqL K H p xs ∧ n = xs.length) ∨ ∃ xs, SqT K H p xs ∧ n = xs.length
 | _ => False
end
end L2
namespace L2
open PySem PySem.Spec PyProof.Rows
structure ZeG (h : Heap) (x dx C : Addr) (mA : Str → Option Value) : Prop where
 obj : h.get? x = some (PySem.W.instObj C dx)
 ns : h.Ns1 dx mA
 ne : dx ≠ x
section
variable {prog : Program} {w : World} {A : Around} {E : Value → Shared → Prop} {s : Shared} {K : PySem.W.Frag} {x dx C f : Addr} {mA : Str → Option Value} {name : Str} {v : Value}
end
noncomputable def Zeb (f : Str) (v : V) : List (Str × V) → List (Str × V)
 | [] => [(f, v)]
 | (g, x) :: r => if g = f then (g, v) :: r else (g, x) :: Zeb f v r
section
variable {P : Program} {w : World} {H H' : Hp} {h h' : Heap} {a C dx : Addr} {fs fs' : List (Str × V)}
end
structure Cls (K : PySem.W.Frag) (C : Addr) : Prop where
 pg : PySem.W.plainGet K C Str.empty = true
 hd : PySem.W.hasDictIn K C = true
 po : PySem.W.plainOver K C = true
 sa : PySem.W.findIn K (.ref C) "__setattr__" = some (some (.builtin "object.__setattr__"))
theorem Cls.get {K : PySem.W.Frag} {C : Addr} (c : Cls K C) (f : Str) : PySem.W.plainGet K C f = true := c.pg
noncomputable def EY (K : PySem.W.Frag) (C : Addr) (f : Str) : Prop := PySem.W.findIn K (.ref C) f = some none
structure Con (K : PySem.W.Frag) (C : Addr) (f : Str) (v : V) (u : Value) : Prop where
 at_ : PySem.W.findIn K (.ref C) f = some (some u)
 rel : RelV v u
 get : PySem.W.specialIn K u "__get__" = some none
 cp : PySem.W.copiedNames.contains f = false
structure Meth (K : PySem.W.Frag) (C : Addr) (m : Str) (f : Addr) : Prop where
 at_ : PySem.W.findIn K (.ref C) m = some (some (.ref f))
 fn : PySem.W.isFn K (.ref f) = true
 kp : PySem.W.keepIn K (.ref f) = true
section
variable {X : Cx} {pins : List (Addr × Obj)} {σ : St} {H : Hp} {s : Shared} {a C dx : Addr} {fs : List (Str × V)} {f : Str} {v : V} {A : Around} {E : Value → Shared → Prop}
end
noncomputable def Zf7 (K : PySem.W.Frag) (ta : TE) (f : Str) : TE := fun σ H Q => ta σ H fun x H1 => ∃ a C dx fs v, x = .ref a ∧ H1 a = some (.ins C dx fs) ∧ Cls K C ∧ EY K C f ∧ fs.lookup f = some v ∧ Q v H1
noncomputable def Zgb (K : PySem.W.Frag) (ta : TE) (f : Str) : TE := fun σ H Q => ta σ H fun x H1 => ∃ a C dx fs v u, x = .ref a ∧ H1 a = some (.ins C dx fs) ∧ Cls K C ∧ Con K C f v u ∧ fs.lookup f = none ∧ Q v H1
noncomputable def Zga (K : PySem.W.Frag) (ta tv : TE) (f : Str) : TS := fun D σ H => tv σ H fun y H1 => ta σ H1 fun x H2 => ∃ a C dx fs, x = .ref a ∧ H2 a = some (.ins C dx fs) ∧ Cls K C ∧ EY K C f ∧ fs.length < 1000 ∧
 D.nx σ (upd H2 a (.ins C dx (Zeb f y fs)))
noncomputable def Zgi (X : Cx) (op : Operator) (rd : V → V → Hp → VK → Prop) : Prop :=
 ∀ (pins : List (Addr × Obj)) (s : Shared) (σ : St) (H : Hp) (x y : V) (u v : Value) (Q : VK), Inv X pins σ H s → RelV x u → RelV y v → rd x y H Q → wpAny (model X.prog X.w) X.A (inplaceOp op u v) (EP X pins σ Q) X.xe s
noncomputable def Zd7 (K : PySem.W.Frag) (ta tv : TE) (rd : V → V → Hp → VK → Prop) (f : Str) : TS := fun D σ H => ta σ H fun x H1 => ∃ a C dx fs v, x = .ref a ∧ H1 a = some (.ins C dx fs) ∧ Cls K C ∧ EY K C f ∧ fs.lookup f = some v ∧
 tv σ H1 fun y H2 => rd v y H2 fun z H3 => ∃ dx' fs', H3 a = some (.ins C dx' fs') ∧ fs'.length < 1000 ∧ D.nx σ (upd H3 a (.ins C dx' (Zeb f z fs')))
section
variable {X : Cx} {o e value : Expr} {f : Str} {pos pos' tpos : Pos} {ta tv : TE}
noncomputable def Zf8 : V → V → Hp → VK → Prop := fun x y H Q => ∃ i j, x = .int i ∧ y = .int j ∧ Q (.int (i + j)) H
noncomputable def Zgc : V → V → Hp → VK → Prop := fun x y H Q => ∃ i j, x = .int i ∧ y = .int j ∧ Q (.int (i - j)) H
end
section
variable {X : Cx} {pins : List (Addr × Obj)} {σ : St} {H : Hp} {s : Shared} {A : Around} {E : Value → Shared → Prop} {Q : Value → Shared → Prop} {c : Value} {b : Bool}
inductive ED (K : PySem.W.Frag) (H : Hp) : V → Value → Prop where
 | non : ED K H .non (.type "NoneType")
 | bl (x : Bool) : ED K H (.bl x) (.type "bool")
 | int (i : Int) : ED K H (.int i) (.type "int")
 | str (x : Str) : ED K H (.str x) (.type "str")
 | flt (x : UInt64) : ED K H (.flt x) (.type "float")
 | lst {a : Addr} {xs : List V} (e : H a = some (.lst xs)) : ED K H (.ref a) (.type "list")
 | frz {a : Addr} {o : Obj} {xs : List V} (e : H a = some (.frz o (.lst xs))) : ED K H (.ref a) (.type "list")
 | tup {a : Addr} {xs : List V} (e : H a = some (.tup xs)) : ED K H (.ref a) (.type "tuple")
 | dK {a : Addr} {kvs : List (Key × V)} (e : H a = some (.dK kvs)) : ED K H (.ref a) (.type "dict")
 | dT {a : Addr} {kvs : List (List Key × V)} (e : H a = some (.dT kvs)) : ED K H (.ref a) (.type "dict")
 | ins {a C dx : Addr} {fs : List (Str × V)} (e : H a = some (.ins C dx fs)) (cl : Cls K C) (ha : PySem.W.findIn K (.ref C) "__class__" = some (some (.builtin "object.__class__")))
   (hn : PySem.W.specialIn K (.builtin "object.__class__") "__get__" = some (some (.builtin "getset_descriptor.__get__"))) (htk : PySem.W.takesIn K (.builtin "object.__class__") = some true)
   (hm : PySem.W.mroIn K C (.type "object") = some true) : ED K H (.ref a) (.ref C)
end
end L2
namespace L2
open PySem PySem.Spec PyProof.Rows
structure Y8 (k : Nat) (A : Around) : Prop where
 hd : A.handled = none
 dp : A.depth + 3 * k + 5 < recursionLimit
 un : A.units + 16 * k + 200 < cLine
 gd : A.guards = some []
theorem Y8.mono {j k : Nat} {A : Around} (r : Y8 k A) (h : j ≤ k) : Y8 j A := ⟨r.hd, by have := r.dp; omega, by have := r.un; omega, r.gd⟩
theorem Y8.deeper {k : Nat} {A : Around} (r : Y8 (k + 1) A) (env : Env) : Y8 k (A.deeper env) :=
 ⟨r.hd, by have := r.dp; show A.depth + 1 + 3 * k + 5 < _; omega, by have := r.un; show A.units + 3 + 16 * k + 200 < _; omega, r.gd⟩
theorem Y8.depth {k : Nat} {A : Around} (r : Y8 k A) : A.depth < recursionLimit := by have := r.dp; omega
theorem Y8.units {k : Nat} {A : Around} (r : Y8 k A) : A.units + 64 < cLine := by have := r.un; omega
noncomputable def Ze3 : TA := fun _ H Q => Q [] H
noncomputable def Zdx (ta : TE) (tr : TA) : TA := fun σ H Q => ta σ H fun x H1 => tr σ H1 fun xs H2 => Q (x :: xs) H2
section
variable {X : Cx} {e : Expr} {es : List Expr} {te : TE} {t : TA} {pos : Pos}
theorem Ff : PA X [] Ze3 := fun _ _ _ _ H Q I h => Calls.spliced_nil ⟨[], H, I, .nil, h⟩
theorem GW (ha : PE X e te) (hr : PA X es t) (hs : autoParam (starEach (e :: es) X.env = (false, eval e X.env) :: starEach es X.env) zz3._auto_1) : PA X (e :: es) (Zdx te t) := by
 intro pos pins s σ H Q I h
 rw [hs]
 show wpAny _ _ (spliced ((false, eval e X.env) :: backTo pos (starEach es X.env))) _ _ s
 refine Calls.spliced_cons (thn (ha pins s σ H _ I h) fun u s1 ⟨x, H1, I1, r1, q1⟩ => ?_)
 exact thn (hr pos pins s1 σ H1 _ I1 q1) fun us s2 ⟨xs, H2, I2, r2, q2⟩ => ⟨x :: xs, H2, I2, .cons r1 r2, q2⟩
noncomputable def ZfK (t : TA) : TE := fun σ H Q => t σ H fun xs H1 => xs.length ≤ sizeLine ∧ ∀ p, H1 p = none → Q (.ref p) (upd H1 p (.tup xs))
noncomputable def Zfj (t : TA) : TE := fun σ H Q => t σ H fun xs H1 => xs.length ≤ sizeLine ∧ ∀ p, H1 p = none → Q (.ref p) (upd H1 p (.lst xs))
theorem PN {x1} (h : PA X es t) : PE X (.Tuple es x1 pos) (ZfK t) := by
 intro pins s σ H Q I hq
 refine wpAny_Tuple_spliced (thn (h pos pins s σ H _ I hq) fun us s1 ⟨xs, H1, I1, r, z, q⟩ => ⟨by rw [← r.length]; exact z, ?_⟩)
 have hf : H1 s1.heap.objs.size = none := I1.hok.fresh (Nat.le_refl _)
 refine ⟨.ref s1.heap.objs.size, upd H1 s1.heap.objs.size (.tup xs), I1.laid (t' := s1.toks) (fun b u e => Heap.get?_push_of_some _ e) (Nat.le_refl _) ?_, rfl, q _ hf⟩
 exact ⟨z, us, r, ⟨_, Heap.get?_push_size _ rfl, rfl, _, rfl⟩⟩
theorem Pc (h : PA X es t) : PE X (.List es pos) (Zfj t) := by
 intro pins s σ H Q I hq
 refine wpAny_List_spliced (thn (h pos pins s σ H _ I hq) fun us s1 ⟨xs, H1, I1, r, z, q⟩ => ⟨by rw [← r.length]; exact z, ?_⟩)
 have hf : H1 s1.heap.objs.size = none := I1.hok.fresh (Nat.le_refl _)
 refine ⟨.ref s1.heap.objs.size, upd H1 s1.heap.objs.size (.lst xs), I1.laid (t' := s1.toks) (fun b u e => Heap.get?_push_of_some _ e) (Nat.le_refl _) ?_, rfl, q _ hf⟩
 exact ⟨z, us, 0, r, Heap.get?_push_size _ rfl⟩
end
noncomputable abbrev Sp := List V → Hp → VK → XK → Prop
noncomputable abbrev CXT := List Env → Hp → Shared → XK → Value → Shared → Prop
structure ZcD (P : Program) (w : World) (K : PySem.W.Frag) (mg : Str → Option Value) (base : Heap) (A : Around) (outer : List Env) (s : Shared) (H : Hp) : Prop where
 frames : A.frames = some outer
 mod : Mod K mg base
 bs : ∀ b o, base.get? b = some o → s.heap.get? b = some o ∧ H b = none
 bsz : base.objs.size ≤ s.heap.objs.size
 LC : s.heap.FunFrames base outer
 frf : ∀ b ∈ frs outer, H b = none
 hok : HOk P w H s.heap
 bare : AllBare s.gens
noncomputable def CE (outer : List Env) (P : Program) (w : World) (H : Hp) (s : Shared) (Q : VK) (u : Value) (s' : Shared) : Prop :=
 ∃ v H', s'.os = s.os ∧ AllBare s'.gens ∧ Un (frs outer) [] H H' s.heap s'.heap ∧ HOk P w H' s'.heap ∧ RelV v u ∧ Q v H'
noncomputable def CR (CX : CXT) (outer : List Env) (P : Program) (w : World) (H : Hp) (s : Shared) (Q : VK) (E : XK) (r : Result) (s' : Shared) : Prop :=
 match r with
 | .ok (.ret u) => CE outer P w H s Q u s'
 | .ok _ => False
 | .error e => CX outer H s E e s'
structure ZE (P : Program) (w : World) (K : PySem.W.Frag) (mg : Str → Option Value) (base : Heap) (CX : CXT) (k : Nat) (f : Addr) (fd : FuncData) (ps : List Str) (sp : Sp) : Prop where
 len : ∀ vs H Q E, sp vs H Q E → vs.length = ps.length
 run : ∀ (A : Around) (outer : List Env) (s : Shared) (H : Hp) (args : Args) (us : List Value) (vs : List V) (Q : VK) (E : XK), Y8 k A → ZcD P w K mg base A outer s H → BindsTo s fd args (ps.zip us) → Vals vs us → sp vs H Q E →
  codeAny (model P w) A (.call (.ref f) args) (CR CX outer P w H s Q E) s
theorem ZE.imp {P : Program} {w : World} {K : PySem.W.Frag} {mg : Str → Option Value} {base : Heap} {CX : CXT} {k : Nat} {f : Addr} {fd : FuncData} {ps : List Str} {sp sp' : Sp} (F : ZE P w K mg base CX k f fd ps sp)
  (h : ∀ vs H Q E, sp' vs H Q E → sp vs H Q E) : ZE P w K mg base CX k f fd ps sp' :=
 ⟨fun vs H Q E q => F.len vs H Q E (h _ _ _ _ q), fun A outer s H args us vs Q E hr he hb hv hs => F.run A outer s H args us vs Q E hr he hb hv (h _ _ _ _ hs)⟩
section
variable {X : Cx} {pins : List (Addr × Obj)} {σ : St} {H : Hp} {s s' : Shared}
theorem Inv.Zfr (I : Inv X pins σ H s) : ZcD X.prog X.w X.K X.mg X.base X.A X.stack s H :=
 ⟨I.ok.frames, I.ok.mod, I.bs, Nat.le_trans I.ok.bsz I.sz, I.stack, I.Ld, I.hok, I.bare⟩
theorem Inv.after {Q : VK} {u : Value} (I : Inv X pins σ H s) (h : CE X.stack X.prog X.w H s Q u s') : EP X pins σ Q u s' := by
 obtain ⟨v, H', os, bare, un, hok, r, q⟩ := h
 obtain ⟨hh, g, d, t, os'⟩ := s'
 obtain rfl : os' = s.os := os
 exact ⟨v, H', I.call (h' := hh) (g' := g) (d' := d) (t' := t) (ch := []) un hok bare (fun b z => absurd z (by simp)), r, q⟩
end
noncomputable def Zec (sp : Sp) (dvs : List V) (E : XK) (t : TA) : TE := fun σ H Q => t σ H fun vs H1 => sp (vs ++ dvs) H1 Q E
noncomputable def ZfH (C : Addr) (m : Str) (sp : Sp) (dvs : List V) (E : XK) (ta : TE) (t : TA) : TE := fun σ H Q => ta σ H fun x H1 => ∃ a dx fs, x = .ref a ∧ H1 a = some (.ins C dx fs) ∧ fs.lookup m = none ∧
 t σ H1 fun vs H2 => sp (x :: (vs ++ dvs)) H2 Q E
noncomputable def Zfk (C : Addr) (sp : Sp) (dvs : List V) (E : XK) (t : TA) : TE := fun σ H Q => t σ H fun vs H1 => ∀ x dx, H1 x = none → H1 dx = none → dx ≠ x →
 sp (.ref x :: (vs ++ dvs)) (upd (upd H1 dx (.own x)) x (.ins C dx [])) (fun v H2 => v = .non ∧ Q (.ref x) H2) E
noncomputable def Binds (K : PySem.W.Frag) (fd : FuncData) (ps : List Str) (ds : List Value) : Prop :=
 ∀ (s : Shared) (us : List Value), K.In s.heap → (us ++ ds).length = ps.length → BindsTo s fd ⟨us, []⟩ (ps.zip (us ++ ds))
theorem Binds.all {K : PySem.W.Frag} {fd : FuncData} {ps : List Str} (h : ∀ us : List Value, us.length = ps.length → bindArgs fd ⟨us, []⟩ = pure (ps.zip us)) : Binds K fd ps [] := fun s us _ hl => by
 rw [List.append_nil] at hl ⊢
 exact .of_eq (h us hl)
noncomputable def Passes (CX : CXT) (X : Cx) (E : XK) : Prop := ∀ (pins : List (Addr × Obj)) (σ : St) (H : Hp) (s : Shared) (e : Value) (s' : Shared), Inv X pins σ H s → CX X.stack H s E e s' → X.xe e s'
section
variable {X : Cx} {CX : CXT} {k : Nat} {f C : Addr} {fd : FuncData} {ps : List Str} {sp : Sp} {dvs : List V} {ds : List Value} {E : XK} {x m : Str} {p pos apos : Pos} {e o : Expr} {es : List Expr} {ta : TE} {t : TA}
theorem Zbq {pins : List (Addr × Obj)} {σ : St} {H : Hp} {s : Shared} {Q : VK} {us : List Value} {vs : List V} (F : ZE X.prog X.w X.K X.mg X.base CX k f fd ps sp) (hr : Y8 k X.A) (hb : Binds X.K fd ps ds) (hd : Vals dvs ds) (hx : Passes CX X E)
  (I : Inv X pins σ H s) (r : Vals vs us) (h : sp (vs ++ dvs) H Q E) : wpAny (model X.prog X.w) X.A (call (.ref f) us) (EP X pins σ Q) X.xe s := by
 have r2 : Vals (vs ++ dvs) (us ++ ds) := r.append hd
 have hl : (us ++ ds).length = ps.length := by rw [← r2.length]; exact F.len _ _ _ _ h
 refine wpAny_call (codeAny_mono (F.run X.A X.stack s H ⟨us, []⟩ (us ++ ds) (vs ++ dvs) Q E hr I.Zfr (hb s us I.kIn hl) r2 h) fun r s' hq => ?_)
 cases r with
 | error e => exact hx pins σ H s e s' I hq
 | ok fl =>
  cases fl with
  | ret u => exact I.after hq
  | next => exact False.elim hq
  | brk => exact False.elim hq
  | cont => exact False.elim hq
theorem SH (F : ZE X.prog X.w X.K X.mg X.base CX k f fd ps sp) (hr : Y8 k X.A) (hg : Gl X x) (hm : X.mg x = some (.ref f)) (hk : PySem.W.keepIn X.K (.ref f) = true) (hb : Binds X.K fd ps ds) (hd : Vals dvs ds) (hx : Passes CX X E)
  (ha : PA X (e :: es) t) (hdb : autoParam ((x == ("__debug__" : Str)) = false) zz1._auto_1) (he : autoParam (starEach (e :: es) X.env = (false, eval e X.env) :: starEach es X.env) zz3._auto_1) (hpl : autoParam ((backTo pos (starEach es X.env)).any (·.1) = false) zz3._auto_1) :
  PE X (.Call (.Name x p) (e :: es) [] pos) (Zec sp dvs E t) := by
 intro pins s σ H Q I h
 refine wpAny_Call_Name_kw (S7 I hg hm ?_ hdb)
 refine PySem.W.callWith_K (h₀ := X.base) I.ok.mod.kin hk (thn (ha pos pins s σ H _ I h) fun us s1 ⟨vs, H1, I1, r, q⟩ => ⟨I1.kIn, ?_⟩) he hpl
 exact Zbq F hr hb hd hx I1 r q
structure Mk (K : PySem.W.Frag) (C f : Addr) : Prop where
 makes : PySem.W.makesIn K C = true
 init : PySem.W.findIn K (.ref C) "__init__" = some (some (.ref f))
 fn : PySem.W.isFn K (.ref f) = true
 kp : PySem.W.keepIn K (.ref C) = true
end
noncomputable def PK (X : Cx) (kws : List Keyword) (t : TA) : Prop :=
 ∀ (pos : Pos) (pins : List (Addr × Obj)) (s : Shared) (σ : St) (H : Hp) (Q : List V → Hp → Prop), Inv X pins σ H s → t σ H Q → wpAny (model X.prog X.w) X.A (evalAll ((backToKw pos (keywordEach kws X.env)).map (·.2))) (AP X pins σ Q) X.xe s
section
variable {X : Cx} {CX : CXT} {k : Nat} {f C : Addr} {fd : FuncData} {ps ks : List Str} {sp : Sp} {E : XK} {x m : Str} {p pos apos kpos : Pos} {e o : Expr} {es : List Expr} {kws : List Keyword} {te ta : TE} {t tk : TA} {nm : Option Str}
structure ZeX (K : PySem.W.Frag) (fd : FuncData) (ps ks : List Str) (g : List Value → List Value → List Value) (gV : List V → List V → List V) : Prop where
 to : ∀ (s : Shared) (us ws : List Value), K.In s.heap → (g us ws).length = ps.length → BindsTo s fd ⟨us, ks.zip ws⟩ (ps.zip (g us ws))
 rel : ∀ {vs : List V} {us : List Value} {zs : List V} {ws : List Value}, Vals vs us → Vals zs ws → Vals (gV vs zs) (g us ws)
noncomputable def ZeJ (sp : Sp) (gV : List V → List V → List V) (E : XK) (t tk : TA) : TE := fun σ H Q => t σ H fun vs H1 => tk σ H1 fun zs H2 => sp (gV vs zs) H2 Q E
variable {g : List Value → List Value → List Value} {gV : List V → List V → List V}
end
structure Zt (N P : List Str) (sc : Scope) : Prop where
 kind : sc.kind = .function
 co : sc.isCoroutine = false
 gen : sc.isGenerator = false
 nd : N.Nodup
 pre : N.take P.length = P
 par : ∀ x ∈ P, sc.names.lookup x = some .local ∨ sc.names.lookup x = some .cell
 nofree : ∀ y ∈ sc.names, y.2 ≠ .free
theorem Gk {kindOf : Str → Option NameKind} {x : Str} : ∀ {binds : List (Str × Value)} {m : Str → Option Value}, (∀ v, (x, v) ∉ binds) → bindL kindOf binds m x = m x
 | [], _, _ => rfl
 | (n, v) :: r, m, h => by
  unfold bindL
  rw [Gk fun w hw => h w (List.mem_cons_of_mem _ hw)]
  split
  ·have : x ≠ n := by rintro rfl; exact h v List.mem_cons_self
   simp [this]
  ·rfl
theorem U0 {kindOf : Str → Option NameKind} {x : Str} : ∀ {binds : List (Str × Value)} {m : Str → Option Value}, (∀ v, (x, v) ∉ binds) → bindC kindOf binds m x = m x
 | [], _, _ => rfl
 | (n, v) :: r, m, h => by
  unfold bindC
  rw [U0 fun w hw => h w (List.mem_cons_of_mem _ hw)]
  split
  ·rfl
  ·have : x ≠ n := by rintro rfl; exact h v List.mem_cons_self
   simp [this]
theorem UW {kindOf : Str → Option NameKind} {x : Str} {v : Value} : ∀ {P : List Str} {vs : List Value} {i : Nat} {m : Str → Option Value}, P.Nodup → P[i]? = some x → vs[i]? = some v → kindOf x = some .local →
  bindL kindOf (P.zip vs) m x = some v
 | [], _, _, _, _, h, _, _ => by simp at h
 | _ :: _, [], _, _, _, _, h, _ => by simp at h
 | p :: P, w :: vs, 0, m, nd, h1, h2, hk => by
  simp at h1 h2; subst h1; subst h2
  show bindL kindOf ((p, w) :: P.zip vs) m p = _
  unfold bindL
  rw [Gk fun v hv => (List.nodup_cons.mp nd).1 (List.of_mem_zip hv).1, if_pos hk]
  simp
 | p :: P, w :: vs, i + 1, m, nd, h1, h2, hk => by
  show bindL kindOf ((p, w) :: P.zip vs) m x = _
  unfold bindL
  exact UW (i := i) (List.nodup_cons.mp nd).2 (by simpa using h1) (by simpa using h2) hk
theorem U4 {kindOf : Str → Option NameKind} {x : Str} {v : Value} : ∀ {P : List Str} {vs : List Value} {i : Nat} {m : Str → Option Value}, P.Nodup → P[i]? = some x → vs[i]? = some v → kindOf x ≠ some .local →
  bindC kindOf (P.zip vs) m x = some v
 | [], _, _, _, _, h, _, _ => by simp at h
 | _ :: _, [], _, _, _, _, h, _ => by simp at h
 | p :: P, w :: vs, 0, m, nd, h1, h2, hk => by
  simp at h1 h2; subst h1; subst h2
  show bindC kindOf ((p, w) :: P.zip vs) m p = _
  unfold bindC
  rw [U0 fun v hv => (List.nodup_cons.mp nd).1 (List.of_mem_zip hv).1, if_neg hk]
  simp
 | p :: P, w :: vs, i + 1, m, nd, h1, h2, hk => by
  show bindC kindOf ((p, w) :: P.zip vs) m x = _
  unfold bindC
  exact U4 (i := i) (List.nodup_cons.mp nd).2 (by simpa using h1) (by simpa using h2) hk
noncomputable def start (N : List Str) (vs : List V) : St := vs.map some ++ List.replicate (N.length - vs.length) none
noncomputable def PB (CX : CXT) (P : Program) (w : World) (K : PySem.W.Frag) (mg : Str → Option Value) (base : Heap) (N : List Str) (qual : Str) (scope : Scope) (f : Addr) (cd : Value) (A : Around) (outer : List Env) (s : Shared) (H : Hp) (E : XK) : Cx where
 prog := P
 w := w
 K := K
 mg := mg
 base := base
 A := A.deeper (envOfC qual scope s.heap.objs.size f cd)
 N := N
 s₀ := s
 H₀ := H
 env := envOfC qual scope s.heap.objs.size f cd
 outer := outer
 stack := envOfC qual scope s.heap.objs.size f cd :: outer
 ex := []
 calm := true
 fn := fun _ => true
 pn := []
 xe := fun e s' => wpAny (model P w) (A.deeper (envOfC qual scope s.heap.objs.size f cd)) (leaving (envOfC qual scope s.heap.objs.size f cd) e) (fun _ s'' => CX outer H s E e s'') (fun e' s'' => CX outer H s E e' s'') s'
theorem V6 {sc : Scope} {n : Nat} {x : Str} (h : sc.names.lookup x = some .cell) : ∃ c, (cellsFrom n sc.names []).lookup x = some c := by
 have q := PySem.W.cellsFrom_some sc.names n [] (.inl h)
 exact Option.isSome_iff_exists.mp q
theorem Fe {CX : CXT} {P : Program} {w : World} {K : PySem.W.Frag} {mg : Str → Option Value} {base : Heap} {N ps : List Str} {qual : Str} {scope : Scope} {f : Addr} {cd : Value} {A : Around} {outer : List Env} {s s1 : Shared} {H : Hp} {E : XK} {us : List Value} {vs : List V}
  (S : Zt N ps scope) (hd : A.handled = none) (e0 : ZcD P w K mg base A outer s H) (hl : vs.length = ps.length) (r : Vals vs us)
  (x : InCallC s s.heap.objs.size (bindL (envOfC qual scope s.heap.objs.size f cd).kindOf (ps.zip us) fun _ => none) (cellsFrom (s.heap.objs.size + 1) scope.names []) (bindC (envOfC qual scope s.heap.objs.size f cd).kindOf (ps.zip us) fun _ => none) s1) :
  Inv (PB CX P w K mg base N qual scope f cd A outer s H E) [] (start N vs) H s1 := by
 have hpl : ps.length ≤ N.length := by have := congrArg List.length S.pre; rw [List.length_take] at this; omega
 obtain ⟨h1, tk, rfl, hk⟩ := x.done
 have noA : ∀ b : Addr, b ∉ (PB CX P w K mg base N qual scope f cd A outer s H E).ex := fun b z => absurd (show b ∈ ([] : List Addr) from z) (by simp)
 refine ⟨⟨e0.mod, S.kind, rfl, rfl, Nat.le_refl _, fun y z c h1 h2 => ?_, fun y hy => ?_, fun y c _ h => ?_, fun _ => hd, Around.frames_deeper e0.frames, .inr ⟨rfl, rfl⟩, fun b z => absurd z (noA b), e0.bs, e0.bsz, fun b _ _ => noA b, fun b z => absurd z (noA b), e0.LC, e0.frf⟩,
  rfl, e0.bare, Un.kept hk, ⟨_, x.toInCall.ns, fun i y v h1 h2 h3 => ?_⟩, fun y c h => ⟨_, x.cell y c h⟩, e0.hok.fresh (Nat.le_refl _), fun y c h => ?_, fun p hp => absurd (show p ∈ ([] : List (Addr × Obj)) from hp) (by simp), e0.hok.kept hk, ?_⟩
 ·exact name_of_addr x.apart (PySem.mem_of_lookup h1) (PySem.mem_of_lookup h2)
 ·have hy : scope.names.lookup y = some .cell ∨ scope.names.lookup y = some .free := hy
  rcases hy with hy | hy
  ·exact V6 hy
  ·exact absurd rfl (S.nofree _ (PySem.mem_of_lookup hy))
 ·exact Nat.le_of_lt (x.above y c (PySem.mem_of_lookup h))
 ·have hi : i < vs.length := by
   unfold start at h2
   by_cases hi : i < vs.length
   ·exact hi
   ·rw [List.getElem?_append_right (by simpa using hi)] at h2
    rw [List.getElem?_replicate] at h2
    split at h2 <;> cases h2
  have ha : vs[i]? = some v := by
   unfold start at h2
   rw [List.getElem?_append_left (by simpa using hi), List.getElem?_map] at h2
   cases e : vs[i]? with
   | none => rw [e] at h2; cases h2
   | some a => rw [e] at h2; cases h2; rfl
  obtain ⟨u, hu, rv⟩ := r.get ha
  have hp : ps[i]? = some y := by
   rw [← S.pre, List.getElem?_take_of_lt (by omega)]; exact h1
  have ndP : ps.Nodup := by rw [← S.pre]; exact S.nd.sublist (List.take_sublist _ _)
  refine ⟨u, rv, ?_⟩
  rcases S.par y (List.mem_of_getElem? hp) with k | k
  ·exact .inl ⟨k, UW ndP hp hu k⟩
  ·obtain ⟨c, e⟩ := V6 (n := s.heap.objs.size + 1) k
   refine .inr ⟨.inl k, c, e, ?_⟩
   have q := x.cell y c e
   rw [U4 ndP hp hu (by show scope.names.lookup y ≠ _; rw [k]; decide)] at q
   exact q
 ·exact e0.hok.fresh (Nat.le_of_lt (x.above y c (PySem.mem_of_lookup h)))
 ·unfold start
  show _ = N.length
  rw [List.length_append, List.length_map, List.length_replicate]
  omega
theorem Zdp {CX : CXT} {P : Program} {w : World} {K : PySem.W.Frag} {mg : Str → Option Value} {base : Heap} {k : Nat} {f : Addr} {name qual : Str} {params : Arguments} {body : List Stmt} {scope : Scope} {dV kV doc pm cdv ct oc : Value} {an od : Option Addr}
  {osl : Array (Option Value)} {N ps : List Str} {sp : Sp} (lk : K.lookup f = some ⟨oc, od, .func (PySem.W.fnOf name qual params body scope dV kV doc pm an cdv ct), osl⟩) (hcd : PySem.W.codeIn K cdv qual = true) (S : Zt N ps scope)
  (len : ∀ vs H Q E, sp vs H Q E → vs.length = ps.length)
  (hbody : ∀ (A : Around) (outer : List Env) (s : Shared) (H : Hp) (vs : List V) (Q : VK) (E : XK), Y8 k (A.deeper (envOfC qual scope s.heap.objs.size f cdv)) → sp vs H Q E →
   ∃ t, PSs (PB CX P w K mg base N qual scope f cdv A outer s H E) body t ∧ t { nx := fun _ H' => Q .non H', rt := Q } (start N vs) H) :
  ZE P w K mg base CX (k + 1) f (PySem.W.fnOf name qual params body scope dV kV doc pm an cdv ct) ps sp := by
 refine ⟨len, fun A outer s H args us vs Q E hr e0 hb r hsp => ?_⟩
 have hl := len _ _ _ _ hsp
 have KX : K.In s.heap := e0.mod.kin.keeps fun b o e => (e0.bs b o e).1
 have lim : s.heap.NoLimit := e0.mod.nolimit.keeps fun b o e => (e0.bs b o e).1
 have hkind : ∀ y ∈ ps.zip us, scope.names.lookup y.1 = some .local ∨ (scope.names.lookup y.1 = some .cell ∧ ((cellsFrom (s.heap.objs.size + 1) scope.names []).lookup y.1).isSome = true) := fun ⟨n, v⟩ hy => by
  rcases S.par n (List.of_mem_zip hy).1 with q | q
  ·exact .inl q
  ·exact .inr ⟨q, PySem.W.cellsFrom_some _ _ _ (.inl q)⟩
 refine codeAny_call_function hr.depth (KX _ _ lk) rfl S.co S.gen rfl (PySem.W.codeRec_of KX hcd) (hb _ _ _ _ ?_)
 refine wpAny_newFunctionEnv_cells S.kind hkind fun env he s1 x => ?_
 subst he
 refine ⟨lim.keeps x.toInCall.keep, codeAny_func ?_⟩
 obtain ⟨t, ht, hq⟩ := hbody A outer s H vs Q E (hr.deeper _) hsp
 have I : Inv (PB CX P w K mg base N qual scope f cdv A outer s H E) [] (start N vs) H s1 := Fe S hr.hd e0 hl r x
 refine wpAny_mono (ht [] s1 (start N vs) H _ I hq) (fun fl s' hs => ?_) fun e s' hs => hs
 have fin : ∀ {σ' : St} {H' : Hp} {v : V} {u : Value}, Inv (PB CX P w K mg base N qual scope f cdv A outer s H E) [] σ' H' s' → RelV v u → Q v H' → CE outer P w H s Q u s' :=
  fun {σ' H' v u} J rv q => ⟨v, H', J.os, J.bare, J.base, J.hok, rv, q⟩
 cases fl with
 | ret u =>
  obtain ⟨v, σ', H', J, rv, q⟩ := hs
  exact fin J rv q
 | next =>
  obtain ⟨σ', H', J, q⟩ := hs
  exact fin (v := V.non) (u := Value.none) J rfl q
 | brk =>
  obtain ⟨_, _, _, q⟩ := hs
  exact False.elim q
 | cont =>
  obtain ⟨_, _, _, q⟩ := hs
  exact False.elim q
end L2
namespace L2
open PySem PySem.Spec PyProof.Rows
section
variable {X : Cx} {x : Str} {p pos : Pos} {e : Expr} {es : List Expr} {t : TA} {id T : String} {r : List V → Hp → VK → Prop}
noncomputable def tCB (r : List V → Hp → VK → Prop) (t : TA) : TE := fun σ H Q => t σ H fun vs H1 => r vs H1 Q
theorem Nk (hc : VI X (.builtin id) r) (hg : Gl X x) (hm : X.mg x = none) (hv : bootBuiltins x = some (.builtin id)) (ha : PA X (e :: es) t) (hn : autoParam (x ≠ "__name__") zz1._auto_1) (hdb : autoParam ((x == ("__debug__" : Str)) = false) zz1._auto_1)
  (he : autoParam (starEach (e :: es) X.env = (false, eval e X.env) :: starEach es X.env) zz3._auto_1) (hpl : autoParam ((backTo pos (starEach es X.env)).any (·.1) = false) zz3._auto_1) : PE X (.Call (.Name x p) (e :: es) [] pos) (tCB r t) := by
 intro pins s σ H Q I h
 refine wpAny_Call_Name_kw (Kl I hg hm hv ?_ hn hdb)
 exact PyProof.Rows.callWith_builtin1 (thn (ha pos pins s σ H _ I h) fun us s1 ⟨vs, H1, I1, r1, q1⟩ => hc pins s1 σ H1 vs us Q I1 r1 q1) he hpl
theorem Es (hc : VI X (.type T) r) (hg : Gl X x) (hm : X.mg x = none) (hv : bootBuiltins x = some (.type T)) (ha : PA X (e :: es) t) (hn : autoParam (x ≠ "__name__") zz1._auto_1) (hdb : autoParam ((x == ("__debug__" : Str)) = false) zz1._auto_1)
  (he : autoParam (starEach (e :: es) X.env = (false, eval e X.env) :: starEach es X.env) zz3._auto_1) (hpl : autoParam ((backTo pos (starEach es X.env)).any (·.1) = false) zz3._auto_1) : PE X (.Call (.Name x p) (e :: es) [] pos) (tCB r t) := by
 intro pins s σ H Q I h
 refine wpAny_Call_Name_kw (Kl I hg hm hv ?_ hn hdb)
 exact PyProof.Rows.callWith_type1 (thn (ha pos pins s σ H _ I h) fun us s1 ⟨vs, H1, I1, r1, q1⟩ => hc pins s1 σ H1 vs us Q I1 r1 q1) he hpl
end
end L2
namespace HT
open PySem PyProof.Rows
noncomputable def lexLt : List Int → List Int → Bool
 | [], [] => false
 | [], _ :: _ => true
 | _ :: _, [] => false
 | x :: xs, y :: ys => if x = y then lexLt xs ys else decide (x < y)
section
open PySem.SeqAt
open PySem.AutoSeq1 (wpAny_loadPart')
open PySem.MeetsSeq PySem.MeetsSeq2 PySem.MeetsSeq3
end
section
variable {prog : Program} {w : World} {A : Around} {E : Value → Shared → Prop} {s : Shared}
theorem Tc {t b : Addr} {vs ws : List Value} {Q : Value → Shared → Prop} (ht : IsTup s.heap t vs.toArray) (hb : IsTup s.heap b ws.toArray) (hv : vs ≠ [])
  (h1 : ws = [] → Q (.ref t) s) (h2 : ws ≠ [] → Q (.ref s.heap.objs.size) { s with heap := s.heap.push { cls := .type "tuple", data := .seq (vs ++ ws).toArray } })
  (hsz : vs.length + ws.length ≤ sizeLine) : wpAny (model prog w) A (binaryOp .Add (.ref t) (.ref b)) Q E s := by
 obtain ⟨⟨cls, dd, data, sl⟩, ho, hc, n, hd⟩ := id ht
 obtain ⟨⟨cls2, dd2, data2, sl2⟩, ho2, hc2, n2, hd2⟩ := id hb
 simp only at hc hd hc2 hd2
 subst hc hd hc2 hd2
 have e : vs.toArray ++ ws.toArray = (vs ++ ws).toArray := by simp
 by_cases hw : ws = []
 ·exact concat_meets ⟨_, ho, rfl⟩ ⟨_, ho2, rfl⟩ noFill_tuple_add seq_tuple_add PySem.F.slot_tuple_add PySem.F.entry_tuple_add (PySem.F.args_tuple_add_2 _ _)
   (tuple_addW1 t b vs.toArray ws.toArray n n2 dd dd2 sl sl2 (by simpa using hv) (by simp [hw])) ⟨ho, ho2, h1 hw⟩
 ·refine concat_meets ⟨_, ho, rfl⟩ ⟨_, ho2, rfl⟩ noFill_tuple_add seq_tuple_add PySem.F.slot_tuple_add PySem.F.entry_tuple_add (PySem.F.args_tuple_add_2 _ _)
   (tuple_addW2 t b vs.toArray ws.toArray n n2 dd dd2 sl sl2 (by simpa using hv) (by simpa using hw) (by rw [List.size_toArray, List.size_toArray]; exact hsz)) ⟨ho, ho2, ?_⟩
  rw [e]
  exact h2 hw
noncomputable def sIx (n d : Nat) : Option Int → Nat
 | none => d
 | some v => if v < 0 then (v + (n : Int)).toNat else min v.toNat n
theorem ZbW (n d : Nat) (hd : d ≤ n) (o : Option Int) : sIx n d o ≤ n := by
 cases o with
 | none => exact hd
 | some v =>
  show (if v < 0 then (v + (n : Int)).toNat else min v.toNat n) ≤ n
  by_cases hv : v < 0
  ·rw [if_pos hv]; omega
  ·rw [if_neg hv]; exact Nat.min_le_right _ _
theorem E2 (v : Int) (n d : Nat) : (if v < 0 then max (v + (n : Int)) 0 else min v (n : Int)) = ((sIx n d (some v) : Nat) : Int) := by
 show (if v < 0 then max (v + (n : Int)) 0 else min v (n : Int)) = (((if v < 0 then (v + (n : Int)).toNat else min v.toNat n) : Nat) : Int)
 by_cases hv : v < 0
 ·simp only [if_pos hv]; omega
 ·simp only [if_neg hv]; omega
theorem D3 (lo hi : Option Int) (n : Nat) : Builtin.Slice.sliceAdjust lo hi 1 (n : Int) = (((sIx n 0 lo : Nat) : Int), ((sIx n n hi : Nat) : Int)) := by
 have h1 : ¬ ((1 : Int) < 0) := by omega
 unfold Builtin.Slice.sliceAdjust
 simp only [h1, if_false]
 refine Prod.ext ?_ ?_
 ·cases lo with
  | none => rfl
  | some v => exact E2 v n 0
 ·cases hi with
  | none => rfl
  | some v => exact E2 v n n
theorem D0 (i j : Nat) : Builtin.Slice.slicePlaces (i : Int) (j : Int) 1 = j - i := by
 unfold Builtin.Slice.slicePlaces
 have h1 : (1 : Int) > 0 := by omega
 simp only [h1, if_true, Int.ediv_one]
 split <;> omega
theorem Wz {v : Value} {o : Option Int} {Q : Option Int → Shared → Prop} (p : IsPart v o) (h : Q o s) : wpAny (model prog w) A (Builtin.Slice.slicePartIndex v) Q E s := by
 cases p with
 | none => exact slicePart_none h
 | int i t => exact slicePart_int h
theorem VF {sl : Addr} {vl vu : Value} {lo hi : Option Int} {n : Nat} {Q : Int × Int × Nat → Shared → Prop} (hs : s.heap.IsSliceOf sl vl vu .none) (pl : IsPart vl lo) (pu : IsPart vu hi)
  (h : Q (((sIx n 0 lo : Nat) : Int), 1, sIx n n hi - sIx n 0 lo) s) : wpAny (model prog w) A (Builtin.Slice.sliceApplied (.ref sl) (pure (n : Int))) Q E s := by
 obtain ⟨os, hos, hcs, hds⟩ := id hs
 unfold Builtin.Slice.sliceApplied Builtin.Slice.sliceFields
 refine wpAny_bind (wpAny_bind (wpAny_field hos hds (x := vl) rfl (wpAny_bind (wpAny_field hos hds (x := vu) rfl (wpAny_bind (wpAny_field hos hds (x := .none) rfl (wpAny_pure ?_)))))))
 refine wpAny_bind (slicePart_none ?_)
 show wpAny _ _ (if ((1 : Int) == 0) = true then _ else _) _ _ s
 rw [if_neg (by decide)]
 refine wpAny_bind (Wz pl (wpAny_bind (Wz pu (wpAny_bind (wpAny_pure ?_)))))
 show wpAny _ _ (match Builtin.Slice.sliceAdjust lo hi 1 (n : Int) with | (lo, hi) => pure (lo, (1 : Int), Builtin.Slice.slicePlaces lo hi 1)) _ _ s
 rw [D3 lo hi n]
 show wpAny _ _ (pure (((sIx n 0 lo : Nat) : Int), (1 : Int), Builtin.Slice.slicePlaces ((sIx n 0 lo : Nat) : Int) ((sIx n n hi : Nat) : Int) 1)) _ _ s
 rw [D0]
 exact wpAny_pure h
theorem OR (xs : Array Value) (i k : Nat) : ((List.range k).filterMap fun (m : Nat) => xs[((i : Int) + (m : Int) * 1).toNat]?).toArray = ((xs.toList.drop i).take k).toArray := by
 have e : (fun (m : Nat) => xs[((i : Int) + (m : Int) * 1).toNat]?) = fun m => xs[i + m]? := by
  funext m
  have : ((i : Int) + (m : Int) * 1).toNat = i + m := by omega
  rw [this]
 rw [e]
 have := pick_run xs i k
 rw [List.filterMap_map] at this
 have e2 : ((fun x => xs[x]?) ∘ fun x => i + x) = fun m => xs[i + m]? := rfl
 rw [e2] at this
 rw [this]
theorem Xq {t sl : Addr} {items : Array Value} {vl vu : Value} {lo hi : Option Int} {Q : Value → Shared → Prop} (ht : IsTup s.heap t items) (hs : s.heap.IsSliceOf sl vl vu .none) (pl : IsPart vl lo) (pu : IsPart vu hi)
  (hw : ¬ (sIx items.size 0 lo = 0 ∧ sIx items.size items.size hi = items.size))
  (h : Q (.ref s.heap.objs.size) { s with heap := s.heap.push { cls := .type "tuple", data := .seq ((items.toList.drop (sIx items.size 0 lo)).take (sIx items.size items.size hi - sIx items.size 0 lo)).toArray } })
  (hsz : items.size ≤ sizeLine) : wpAny (model prog w) A (getItem (.ref t) (.ref sl)) Q E s := by
 have htake : sizeOk (.seq ((items.toList.drop (sIx items.size 0 lo)).take (sIx items.size items.size hi - sIx items.size 0 lo)).toArray) := by
  show ((items.toList.drop (sIx items.size 0 lo)).take (sIx items.size items.size hi - sIx items.size 0 lo)).toArray.size ≤ sizeLine
  rw [List.size_toArray, List.length_take, List.length_drop, Array.length_toList]
  omega
 have hj : sIx items.size items.size hi ≤ items.size := ZbW _ _ (Nat.le_refl _) hi
 obtain ⟨os, hos, hcs, hds⟩ := id hs
 have hTs : s.TypeIs (.ref sl) "slice" := ⟨os, hos, hcs⟩
 unfold getItem
 try with_reducible refine wpAny_holding ?_
 first | refine wpAny_bind (wpAny_pure ?_) | skip
 refine wpAny_bind (wpAny_sequenceKey ht.typeIs (by decide) ?_)
 refine wpAny_bind (wpAny_callSpecial?_slot (name := Str.ofString "__getitem__") ht.typeIs PyProof.Rows.slot_tuple_getitem
  (wpAny_call_entry PyProof.Rows.slot_tuple_getitem ht.typeIs entry_tuple_getitem ?_ (args_tuple_getitem _ _)))
 show wpAny _ _ (Builtin.Tuple.tupleItemsOf (.ref t) >>= _) _ _ s
 refine wpAny_bind (tupleItemsOf_ ht ?_)
 refine wpAny_bind (wpAny_typeOf hTs ?_)
 rw [if_pos (by decide)]
 refine wpAny_bind (VF hs pl pu ?_)
 have hno : ¬ ((((sIx items.size 0 lo : Nat) : Int) == 0 && (1 : Int) == 1 && (sIx items.size items.size hi - sIx items.size 0 lo) == items.size) = true) := by
  intro q
  rw [Bool.and_eq_true, Bool.and_eq_true] at q
  have q1 : ((sIx items.size 0 lo : Nat) : Int) = 0 := eq_of_beq q.1.1
  have q2 : sIx items.size items.size hi - sIx items.size 0 lo = items.size := eq_of_beq q.2
  exact hw ⟨by omega, by omega⟩
 show wpAny _ _ (if (((sIx items.size 0 lo : Nat) : Int) == 0 && (1 : Int) == 1 && (sIx items.size items.size hi - sIx items.size 0 lo) == items.size) = true then _ else _) _ _ s
 rw [if_neg hno, OR]
 first
  | exact wpAny_bind (m := Builtin.Tuple.tupleExact _) (wpAny_newObj_type (wpAny_pure ⟨_, rfl, wpAny_pure h⟩) htake)
  | exact wpAny_bind (m := Builtin.Tuple.tupleExact _) (wpAny_newObj_type (wpAny_bind (wpAny_pure (wpAny_pure ⟨_, rfl, wpAny_pure h⟩))) htake)
  | exact wpAny_bind (wpAny_bind (m := Builtin.Tuple.tupleExact _) (wpAny_newObj_type (wpAny_pure (wpAny_pure ⟨_, rfl, wpAny_pure h⟩)) htake))
  | exact wpAny_bind (wpAny_bind (m := Builtin.Tuple.tupleExact _) (wpAny_newObj_type (wpAny_pure ⟨_, rfl, wpAny_pure h⟩) htake))
end
end HT
namespace L2
open PySem PySem.Spec PyProof.Rows
noncomputable abbrev TO := St → Hp → (Option Int → Hp → Prop) → Prop
noncomputable def PO (X : Cx) (e : Option Expr) (t : TO) : Prop :=
 ∀ (pins : List (Addr × Obj)) (s : Shared) (σ : St) (H : Hp) (Q : Option Int → Hp → Prop), Inv X pins σ H s → t σ H Q →
  wpAny (model X.prog X.w) X.A (evalPart e X.env) (fun u s' => ∃ o H', Inv X pins σ H' s' ∧ IsPart u o ∧ Q o H') X.xe s
noncomputable def Rz : TO := fun _ H Q => Q none H
noncomputable def ZcZ (t : TE) : TO := fun σ H Q => t σ H fun x H1 => ∃ i, x = .int i ∧ Q (some i) H1
theorem intsAre_of {ns : List Int} : ∀ {us : List Value}, Vals (ns.map V.int) us → IntsAre us ns := by
 induction ns with
 | nil => intro us r; rw [List.map_nil] at r; cases r; exact .nil
 | cons n ns ih =>
  intro us r
  rw [List.map_cons] at r
  cases r with
  | cons r1 r2 =>
   obtain ⟨t, e⟩ := r1
   subst e
   exact .cons n t (ih r2)
section
variable {X : Cx} {e : Expr} {te : TE} {lo hi : Option Expr} {tl th : TO} {pos p2 : Pos}
theorem S5 : PO X none Rz := by
 intro pins s σ H Q I h
 rw [evalPart_none]
 exact wpAny_pure ⟨none, H, I, .none, h⟩
theorem RS (h : PE X e te) : PO X (some e) (ZcZ te) := by
 intro pins s σ H Q I hw
 rw [evalPart_some]
 refine thn (h pins s σ H _ I hw) fun u s1 ⟨x, H1, I1, r1, q1⟩ => ?_
 obtain ⟨i, rfl, q⟩ := q1
 obtain ⟨t, rfl⟩ := r1
 exact ⟨some i, H1, I1, .int i t, q⟩
noncomputable def SlR (X : Cx) (r : V → Option Int → Option Int → Hp → VK → Prop) : Prop :=
 ∀ (pins : List (Addr × Obj)) (s : Shared) (σ : St) (H : Hp) (x : V) (v vl vu : Value) (lo hi : Option Int) (sl : Addr) (Q : VK), Inv X pins σ H s → RelV x v → s.heap.IsSliceOf sl vl vu .none → IsPart vl lo → IsPart vu hi → r x lo hi H Q →
  ∃ T id, typeLookup (.type T) "__getitem__" = pure (some (.builtin id)) ∧ s.TypeIs v T ∧ wpAny (model X.prog X.w) X.A (getItem v (.ref sl)) (EP X pins σ Q) X.xe s
theorem SlR.or {r r' : V → Option Int → Option Int → Hp → VK → Prop} (h : SlR X r) (h' : SlR X r') : SlR X (fun x lo hi H Q => r x lo hi H Q ∨ r' x lo hi H Q) := by
 intro pins s σ H x v vl vu lo hi sl Q I rx hs pl pu q
 rcases q with q | q
 ·exact h pins s σ H x v vl vu lo hi sl Q I rx hs pl pu q
 ·exact h' pins s σ H x v vl vu lo hi sl Q I rx hs pl pu q
noncomputable def tSl (r : V → Option Int → Option Int → Hp → VK → Prop) (te : TE) (tl th : TO) : TE := fun σ H Q => te σ H fun x H1 => tl σ H1 fun l H2 => th σ H2 fun u H3 => r x l u H3 Q
theorem CY {r : V → Option Int → Option Int → Hp → VK → Prop} (hr : SlR X r) (he : PE X e te) (hl : PO X lo tl) (hu : PO X hi th) : PE X (.Subscript e (.Slice lo hi none p2) pos) (tSl r te tl th) := by
 intro pins s σ H Q I h
 refine Subscript_ (thn (he pins s σ H _ I h) fun v s1 ⟨x, H1, I1, r1, q1⟩ => ?_)
 refine wpAny_Slice (thn (hl pins s1 σ H1 _ I1 q1) fun vl s2 ⟨l, H2, I2, pl, q2⟩ => thn (hu pins s2 σ H2 _ I2 q2) fun vu s3 ⟨u, H3, I3, pu, q3⟩ => ?_)
 rw [evalPart_none]
 refine wpAny_pure ?_
 have I4 : Inv X pins σ H3 { s3 with heap := s3.heap.push { cls := .type "slice", data := .fields #[vl, vu, .none] } } := I3.kept (t' := s3.toks) fun b ob q => Heap.get?_push_of_some _ q
 obtain ⟨T, id, hT, ht, hg⟩ := hr pins { s3 with heap := s3.heap.push { cls := .type "slice", data := .fields #[vl, vu, .none] } } σ H3 x v vl vu l u s3.heap.objs.size Q I4 r1 (Heap.IsSliceOf.new ..) pl pu q3
 show wpAny (model X.prog X.w) X.A (subscriptTail e (.Slice lo hi none p2) v (.ref s3.heap.objs.size)) (EP X pins σ Q) X.xe { s3 with heap := s3.heap.push { cls := .type "slice", data := .fields #[vl, vu, .none] } }
 exact tail_any (ops := [.ref s3.heap.objs.size, v]) ht hT hg (by with_unfolding_all rfl)
noncomputable def Rv (xs : List V) (lo hi : Option Int) : List V := (xs.drop (HT.sIx xs.length 0 lo)).take (HT.sIx xs.length xs.length hi - HT.sIx xs.length 0 lo)
theorem Bt (xs : List V) (lo hi : Option Int) : (Rv xs lo hi).length ≤ xs.length := by
 unfold Rv
 rw [List.length_take, List.length_drop]
 omega
noncomputable def ZfA (K : PySem.W.Frag) : V → Option Int → Option Int → Hp → VK → Prop := fun x lo hi H Q => ∃ a xs, x = .ref a ∧ SqT K H a xs ∧
 ¬ (HT.sIx xs.length 0 lo = 0 ∧ HT.sIx xs.length xs.length hi = xs.length) ∧ ∀ p, H p = none → Q (.ref p) (upd H p (.tup (Rv xs lo hi)))
theorem Pq : SlR X (ZfA X.K) := by
 intro pins s σ H x v vl vu lo hi sl Q I rx hs pl pu h
 obtain ⟨a, xs, rfl, hx, hw, q⟩ := h
 cases rx
 obtain ⟨its, r, ht, hz⟩ := I.tuple hx
 have hlen : its.toArray.size = xs.length := by rw [List.size_toArray]; exact r.length.symm
 refine ⟨"tuple", _, PyProof.Rows.slot_tuple_getitem.lookup, ht.typeIs, ?_⟩
 refine HT.Xq ht hs pl pu (by rw [hlen]; exact hw) ?_ (by rw [hlen]; exact hz)
 rw [hlen]
 refine ⟨.ref s.heap.objs.size, _, I.laid (t' := s.toks) (o := .tup (Rv xs lo hi)) (fun b ob q => Heap.get?_push_of_some _ q) (Nat.le_refl _) ?_, rfl, q _ (I.hok.fresh (Nat.le_refl _))⟩
 exact ⟨Nat.le_trans (Bt xs lo hi) hz, _, (r.drop (HT.sIx xs.length 0 lo)).take (HT.sIx xs.length xs.length hi - HT.sIx xs.length 0 lo), IsTup.new _ _⟩
noncomputable def Zf3 (K : PySem.W.Frag) : R2 := fun x y H Q => ∃ a b ns ms, x = .ref a ∧ y = .ref b ∧ SqT K H a (ns.map V.int) ∧ SqT K H b (ms.map V.int) ∧ Q (.bl (HT.lexLt ns ms)) H
noncomputable def Zd1 (K : PySem.W.Frag) : R2 := fun x y H Q => ∃ a b xs ys, x = .ref a ∧ y = .ref b ∧ SqT K H a xs ∧ SqT K H b ys ∧ xs ≠ [] ∧ xs.length + ys.length ≤ sizeLine ∧
 (ys = [] → Q (.ref a) H) ∧ (ys ≠ [] → ∀ p, H p = none → Q (.ref p) (upd H p (.tup (xs ++ ys))))
theorem Vals.WS {xs : List V} {us : List Value} (r : Vals xs us) : us = [] ↔ xs = [] := by
 cases r with
 | nil => simp
 | cons _ _ => simp
theorem RR : OpR X (binaryOp .Add) (Zd1 X.K) := by
 intro pins s σ H x y v u Q I rx ry h
 obtain ⟨a, b, xs, ys, rfl, rfl, ha, hb, hx, hz, q1, q2⟩ := h
 cases rx
 cases ry
 obtain ⟨its, r1, p1, _⟩ := I.tuple ha
 obtain ⟨its2, r2, p2, _⟩ := I.tuple hb
 refine HT.Tc p1 p2 (fun z => hx (r1.WS.mp z)) (fun z => ⟨.ref a, H, I, rfl, q1 (r2.WS.mp z)⟩) (fun z => ?_) (by rw [← r1.length, ← r2.length]; exact hz)
 refine ⟨.ref s.heap.objs.size, _, I.laid (t' := s.toks) (o := .tup (xs ++ ys)) (fun b ob q => Heap.get?_push_of_some _ q) (Nat.le_refl _) ?_, rfl, q2 (fun w => z (r2.WS.mpr w)) _ (I.hok.fresh (Nat.le_refl _))⟩
 exact ⟨by rw [List.length_append]; exact hz, _, r1.append r2, IsTup.new _ _⟩
end
end L2
namespace L2
open PySem PySem.Spec PyProof.Rows
noncomputable def ixN (n : Nat) (i : Int) : Option Nat := if 0 ≤ i then (if i < n then some i.toNat else none) else if -(n : Int) ≤ i then some (i + n).toNat else none
noncomputable def atI {α : Type} (xs : List α) (i : Int) : Option α := (ixN xs.length i).bind fun j => xs[j]?
theorem Hn {n : Nat} {i : Int} {j : Nat} (h : ixN n i = some j) : seqIndex? i n = some j ∧ j < n ∧ -(n : Int) ≤ i ∧ i < n := by
 unfold ixN at h
 by_cases h0 : 0 ≤ i
 ·rw [if_pos h0] at h
  by_cases h1 : i < n
  ·rw [if_pos h1] at h
   have e : i.toNat = j := Option.some.inj h
   exact ⟨by rw [seqIndex_of h0 h1, e], by omega, by omega, h1⟩
  ·rw [if_neg h1] at h; cases h
 ·rw [if_neg h0] at h
  by_cases h1 : -(n : Int) ≤ i
  ·rw [if_pos h1] at h
   have e : (i + n).toNat = j := Option.some.inj h
   exact ⟨by rw [seqIndex_neg (by omega) h1, e], by omega, h1, by omega⟩
  ·rw [if_neg h1] at h; cases h
theorem Bo {α : Type} {xs : List α} {i : Int} {v : α} (h : atI xs i = some v) : ∃ j, seqIndex? i xs.length = some j ∧ xs[j]? = some v ∧ j < xs.length ∧ -(xs.length : Int) ≤ i ∧ i < xs.length := by
 unfold atI at h
 cases e : ixN xs.length i with
 | none => rw [e] at h; cases h
 | some j =>
  rw [e] at h
  obtain ⟨h1, h2, h3, h4⟩ := Hn e
  exact ⟨j, h1, h, h2, h3, h4⟩
theorem Vl {α : Type} {xs : List α} {j : Nat} {v : α} (h : xs[j]? = some v) : atI xs (j : Int) = some v := by
 have hj : j < xs.length := (List.getElem?_eq_some_iff.mp h).1
 have e : ixN xs.length (j : Int) = some j := by
  unfold ixN
  rw [if_pos (by omega), if_pos (by omega)]; simp
 unfold atI; rw [e]; exact h
noncomputable def Fo (b : Expr) : Prop := ∀ o i, subscripted b false o i = operate [o, i] (getItem o i)
noncomputable def IxR (X : Cx) (r : R2) : Prop :=
 ∀ (value slice : Expr) (pins : List (Addr × Obj)) (s : Shared) (σ : St) (H : Hp) (x y : V) (v u : Value) (Q : VK), Inv X pins σ H s → RelV x v → RelV y u → r x y H Q →
  subscripted slice false v u = operate [v, u] (getItem v u) → wpAny (model X.prog X.w) X.A (subscriptTail value slice v u) (EP X pins σ Q) X.xe s
noncomputable def MtR (X : Cx) (id : String) (r : V → List V → Hp → VK → Prop) : Prop :=
 ∀ (pins : List (Addr × Obj)) (s : Shared) (σ : St) (H : Hp) (x : V) (xs : List V) (v : Value) (us : List Value) (Q : VK), Inv X pins σ H s → RelV x v → Vals xs us → r x xs H Q →
  wpAny (model X.prog X.w) X.A (call (.builtin id) (v :: us)) (EP X pins σ Q) X.xe s
section
variable {X : Cx} {a b : Expr} {ta tb : TE} {pos : Pos}
theorem IxR.or {r r' : R2} (h : IxR X r) (h' : IxR X r') : IxR X (fun x y H Q => r x y H Q ∨ r' x y H Q) := by
 intro value slice pins s σ H x y v u Q I rx ry q hs
 rcases q with q | q
 ·exact h value slice pins s σ H x y v u Q I rx ry q hs
 ·exact h' value slice pins s σ H x y v u Q I rx ry q hs
theorem Zee {r : R2} (hr : IxR X r) (ha : PE X a ta) (hb : PE X b tb) (hs : Fo b) : PE X (.Subscript a b pos) (tOp r ta tb) := by
 intro pins s σ H Q I h
 exact Subscript_ (Zeg ha hb I h fun v u s2 x y H2 I2 rx ry q => hr a b pins s2 σ H2 x y v u Q I2 rx ry q (hs _ _))
noncomputable def ZeH (K : PySem.W.Frag) : R2 := fun x y H Q => ∃ p xs i v, x = .ref p ∧ y = .int i ∧ SqL K H p xs ∧ atI xs i = some v ∧ Q v H
noncomputable def Zer (K : PySem.W.Frag) : R2 := fun x y H Q => ∃ p xs i v, x = .ref p ∧ y = .int i ∧ SqT K H p xs ∧ atI xs i = some v ∧ Q v H
noncomputable def ZeK : R2 := fun x y H Q => ∃ z i c, x = .str z ∧ y = .int i ∧ z.length ≤ sizeLine ∧ atI z.cps.toList i = some c ∧ Q (.str ⟨#[c]⟩) H
theorem R6 : IxR X (ZeH X.K) := by
 intro value slice pins s σ H x y v u Q I rx ry h hs
 obtain ⟨p, xs, i, z, rfl, rfl, hq, he, q⟩ := h
 cases rx
 obtain ⟨t, rfl⟩ := ry
 obtain ⟨its, r, pl, hz⟩ := I.list hq
 obtain ⟨j, h1, h2, h3, h4, h5⟩ := Bo he
 obtain ⟨w, ew, rw'⟩ := r.get h2
 have hl := r.length
 have hn := Wv
 have fin : EP X pins σ Q w s := ⟨z, H, I, rw', q⟩
 by_cases h0 : 0 ≤ i
 ·have hj : i.toNat = j := by
   rw [seqIndex_of h0 h5] at h1
   exact Option.some.inj h1
  exact item_listR pl.isList h0 (by omega) (by rw [hj]; simpa using ew) fin hs
 ·have hj : (i + (its.toArray.size : Int)).toNat = j := by
   rw [seqIndex_neg (by omega) h4] at h1
   rw [List.size_toArray, ← hl]
   exact Option.some.inj h1
  exact subscriptTail_builtinR (x := w) pl.isList.typeIs slot_list_getitem.lookup
   (wpAny_getItem_list_neg (Q := fun r s' => r = w ∧ EP X pins σ Q r s') pl.isList (by omega) (by rw [List.size_toArray] <;> omega) (by omega) (by rw [hj]; simpa using ew) ⟨rfl, fin⟩) hs
theorem Zal : IxR X (Zer X.K) := by
 intro value slice pins s σ H x y v u Q I rx ry h hs
 obtain ⟨p, xs, i, z, rfl, rfl, hq, he, q⟩ := h
 cases rx
 obtain ⟨t, rfl⟩ := ry
 obtain ⟨its, r, pl, hz⟩ := I.tuple hq
 obtain ⟨j, h1, h2, h3, h4, h5⟩ := Bo he
 obtain ⟨w, ew, rw'⟩ := r.get h2
 have hl := r.length
 have hn := Wv
 have fin : EP X pins σ Q w s := ⟨z, H, I, rw', q⟩
 exact subscriptTail_builtinR (x := w) pl.typeIs slot_tuple_getitem.lookup
  (getItem_tuple (j := j) (Q := fun r s' => r = w ∧ EP X pins σ Q r s') pl (by omega) (by omega) (by rw [List.size_toArray, ← hl]; exact h1) (by simpa using ew) ⟨rfl, fin⟩) hs
theorem TB : IxR X ZeK := by
 intro value slice pins s σ H x y v u Q I rx ry h hs
 obtain ⟨z, i, c, rfl, rfl, hz, he, q⟩ := h
 obtain ⟨t, rfl⟩ := rx
 obtain ⟨t', rfl⟩ := ry
 obtain ⟨j, h1, h2, h3, h4, h5⟩ := Bo he
 have hl : z.cps.toList.length = z.length := by simp [Str.length]
 rw [hl] at h1 h4 h5
 have hn := Wv
 exact tail_any (typeIs_str s z t) slot_str_getitem.lookup (getItem_str (c := c) (by
  have e1 : decide (i < -(2 ^ 63 : Int)) = false := decide_eq_false (by omega)
  have e2 : decide (i ≥ 2 ^ 63) = false := decide_eq_false (by omega)
  rw [e1, e2, Bool.or_false]) (by rw [h1]; simpa using h2) ⟨.str ⟨#[c]⟩, H, I.tok _, ⟨_, rfl⟩, q⟩) hs
noncomputable def rIx (K : PySem.W.Frag) : R2 := fun x y H Q => ZeH K x y H Q ∨ Zer K x y H Q ∨ ZeK x y H Q
theorem Zas : IxR X (rIx X.K) := R6.or (Zal.or TB)
theorem Du (its : List Value) (n j : Nat) (u : Value) : Obj.mapSeq (·.setIfInBounds j u) { cls := .type "list", data := .seq its.toArray n } = { cls := .type "list", data := .seq (its.set j u).toArray n } := by
 simp [Obj.mapSeq]
theorem Inv.lst {pins : List (Addr × Obj)} {σ : St} {H : Hp} {s : Shared} {p : Addr} {xs : List V} (I : Inv X pins σ H s) (h : H p = some (.lst xs)) :
  ∃ (its : List Value) (n : Nat), Vals xs its ∧ s.heap.get? p = some { cls := .type "list", data := .seq its.toArray n } ∧ xs.length ≤ sizeLine := by
 obtain ⟨z, its, n, r, e⟩ := I.hok p _ h
 exact ⟨its, n, r, e, z⟩
theorem Inv.Zat {pins : List (Addr × Obj)} {σ : St} {H : Hp} {s : Shared} {p : Addr} {xs ys : List V} {its its' : List Value} {n n' : Nat} {f : Obj → Obj} (I : Inv X pins σ H s) (h : H p = some (.lst xs))
  (ho : s.heap.get? p = some { cls := .type "list", data := .seq its.toArray n }) (hf : f { cls := .type "list", data := .seq its.toArray n } = { cls := .type "list", data := .seq its'.toArray n' }) (r : Vals ys its') (hz : ys.length ≤ sizeLine) (t : Nat) :
  Inv X pins σ (upd H p (.lst ys)) { s with heap := s.heap.update p f, toks := t } := by
 have e : (s.heap.update p f).get? p = some { cls := .type "list", data := .seq its'.toArray n' } := by
  rw [Heap.get?_update_self f ho (by rw [hf] <;> rfl), hf]
 refine I.write (x := p) (e := p) (by rw [h]; trivial) (.inl rfl) (fun b u hb q => (Heap.get?_update_other _ _ (Ne.symm hb)).trans q) ⟨_, e⟩ ?_
 exact ⟨hz, its', n', r, e⟩
noncomputable def Zdz : V → V → V → Hp → (Hp → Prop) → Prop := fun o i v H Q => ∃ p xs k j, o = .ref p ∧ i = .int k ∧ H p = some (.lst xs) ∧ ixN xs.length k = some j ∧ Q (upd H p (.lst (xs.set j v)))
theorem set_list : Zet X Zdz := by
 intro pins s σ H o i v ov iv u Q I ro ri rv h
 obtain ⟨p, xs, k, j, rfl, rfl, hp, hj, q⟩ := h
 cases ro
 obtain ⟨t, rfl⟩ := ri
 obtain ⟨its, n, r, ho, hz⟩ := I.lst hp
 obtain ⟨h1, h2, h3, h4⟩ := Hn hj
 have hl := r.length
 have hn := Wv
 have I' : Inv X pins σ (upd H p (.lst (xs.set j v))) { s with heap := s.heap.update p (Obj.mapSeq (·.setIfInBounds j u)) } :=
  I.Zat hp ho (Du its n j u) (r.set rv j) (by rw [List.length_set]; exact hz) s.toks
 by_cases h0 : 0 ≤ k
 ·have hk : k.toNat = j := by
   rw [seqIndex_of h0 h4] at h1
   exact Option.some.inj h1
  exact PySem.W.ki_setAt ho h0 (by omega) (by rw [List.size_toArray, ← hl]; exact h4) (by rw [hk]; exact ⟨_, I', q⟩)
 ·have hk : (k + (its.toArray.size : Int)).toNat = j := by
   rw [seqIndex_neg (by omega) h3] at h1
   rw [List.size_toArray, ← hl]
   exact Option.some.inj h1
  exact PySem.W.ki_setBack ho (by omega) (by rw [List.size_toArray, ← hl]; exact h3) (by omega) (by rw [hk]; exact ⟨_, I', q⟩)
noncomputable def ZfX (K : PySem.W.Frag) : V → Option Int → Option Int → Hp → VK → Prop := fun x lo hi H Q => ∃ a xs, x = .ref a ∧ SqL K H a xs ∧ ∀ p, H p = none → Q (.ref p) (upd H p (.lst (Rv xs lo hi)))
noncomputable def ZbX : V → Bool
 | .non => true
 | .bl _ => true
 | .int _ => true
 | .str _ => true
 | _ => false
noncomputable def eqV : V → V → Bool
 | .non, .non => true
 | .bl a, .bl b => a == b
 | .bl a, .int b => (if a then 1 else 0) == b
 | .int a, .bl b => a == (if b then 1 else 0)
 | .int a, .int b => a == b
 | .str a, .str b => a == b
 | _, _ => false
noncomputable def eqU (x : V) (u : Value) : Bool := match u with
 | .none => eqV .non x
 | .bool b => eqV (.bl b) x
 | .int i _ => eqV (.int i) x
 | .str z _ => eqV (.str z) x
 | _ => false
noncomputable def inV (x : V) (xs : List V) : Bool := xs.any fun y => eqV y x
noncomputable def rIn (K : PySem.W.Frag) (neg : Bool) : R2 := fun x y H Q => ∃ p xs, y = .ref p ∧ (SqL K H p xs ∨ SqT K H p xs) ∧ ZbX x = true ∧ xs.all ZbX = true ∧ Q (.bl (if neg then !inV x xs else inV x xs)) H
theorem UT : VI X (.builtin "len") (fun xs H Q => ∃ p ys, xs = [.ref p] ∧ (SqL X.K H p ys ∨ SqT X.K H p ys) ∧ Q (.int ys.length) H) := by
 intro pins s σ H xs us Q I r h
 obtain ⟨p, ys, rfl, hq, q⟩ := h
 obtain ⟨u, rfl, rx⟩ := vals1 r
 cases rx
 have hn := Wv
 rcases hq with hq | hq
 ·obtain ⟨its, r', pl, hz⟩ := I.list hq
  have hlen := r'.length
  exact Calls.call_len_list pl.isList (by simp only [List.size_toArray] <;> omega) ⟨.int ys.length, H, I.tok _, ⟨s.toks + 1, by rw [List.size_toArray, hlen]⟩, q⟩
 ·obtain ⟨its, r', pl, hz⟩ := I.tuple hq
  have hlen := r'.length
  exact len_tuple pl (by simp only [List.size_toArray] <;> omega) ⟨.int ys.length, H, I.tok _, ⟨s.toks + 1, by rw [List.size_toArray, hlen]⟩, q⟩
theorem Ga : VI X (.type "list") (fun xs H Q => ∃ p ys, xs = [.ref p] ∧ (SqL X.K H p ys ∨ SqT X.K H p ys) ∧ ∀ l, H l = none → Q (.ref l) (upd H l (.lst ys))) := by
 intro pins s σ H xs us Q I r h
 obtain ⟨p, ys, rfl, hq, q⟩ := h
 obtain ⟨u, rfl, rx⟩ := vals1 r
 cases rx
 have fin : ∀ (its : List Value), Vals ys its → ys.length ≤ sizeLine → ∀ (h' : Heap) (c' : Nat), (∀ b o', s.heap.get? b = some o' → h'.get? b = some o') →
   h'.get? s.heap.objs.size = some { cls := .type "list", dict := none, data := .seq its.toArray c', slots := #[] } → EP X pins σ Q (.ref s.heap.objs.size) { s with heap := h' } := fun its r' hz h' c' kp e =>
  ⟨.ref s.heap.objs.size, _, I.laid (t' := s.toks) kp (Nat.le_refl _) (show Q5 X.prog X.w _ h' _ (.lst ys) from ⟨hz, its, c', r', e⟩), rfl, q _ (I.hok.fresh (Nat.le_refl _))⟩
 rcases hq with hq | hq
 ·obtain ⟨its, r', pl, hz⟩ := I.list hq
  have hlen := r'.length
  obtain ⟨o, ho, hc, n, hd⟩ := pl.isList
  exact call_list_seq p (.inl rfl) ho hc hd (fun h' c' kp e => fin its r' hz h' c' kp e) (by simp only [List.size_toArray] <;> omega)
 ·obtain ⟨its, r', pl, hz⟩ := I.tuple hq
  have hlen := r'.length
  obtain ⟨o, ho, hc, n, hd⟩ := pl
  exact call_list_seq p (.inr rfl) ho hc hd (fun h' c' kp e => fin its r' hz h' c' kp e) (by simp only [List.size_toArray] <;> omega)
theorem WR : VI X (.type "tuple") (fun xs H Q => ∃ p ys, xs = [.ref p] ∧ ((SqL X.K H p ys ∧ ∀ l, H l = none → Q (.ref l) (upd H l (.tup ys))) ∨ (SqT X.K H p ys ∧ Q (.ref p) H))) := by
 intro pins s σ H xs us Q I r h
 obtain ⟨p, ys, rfl, h⟩ := h
 obtain ⟨u, rfl, rx⟩ := vals1 r
 cases rx
 rcases h with ⟨hq, q⟩ | ⟨hq, q⟩
 ·obtain ⟨its, r', pl, hz⟩ := I.list hq
  have hlen := r'.length
  refine call_tuple_list pl.isList (fun h' kp => ?_) (by simp only [List.size_toArray] <;> omega)
  have I1 : Inv X pins σ H { s with heap := h' } := I.kept (t' := s.toks) kp
  have I2 : Inv X pins σ (upd H h'.objs.size (.tup ys)) { s with heap := h'.push { cls := .type "tuple", data := .seq its.toArray } } :=
   I1.laid (t' := s.toks) (fun b o e => Heap.get?_push_of_some _ e) (Nat.le_refl _) (show Q5 X.prog X.w _ _ _ (.tup ys) from ⟨hz, its, r', IsTup.new _ _⟩)
  exact ⟨.ref h'.objs.size, _, I2, rfl, q _ (I1.hok.fresh (Nat.le_refl _))⟩
 ·obtain ⟨its, r', pl, hz⟩ := I.tuple hq
  exact call_tuple_same pl ⟨.ref p, H, I, rfl, q⟩
noncomputable def tyV (K : PySem.W.Frag) (T : String) (x : V) (H : Hp) : Prop := match x with
 | .str _ => T = "str"
 | .int _ => T = "int"
 | .ref p => (T = "list" ∧ ∃ xs, SqL K H p xs) ∨ (T = "tuple" ∧ ∃ o, K.lookup p = some o ∧ o.cls = .type "tuple" ∧ o.dict = none) ∨
   (T = "dict" ∧ ((∃ kvs, H p = some (.dK kvs)) ∨ ∃ kvs, H p = some (.dT kvs))) ∨ (T = "set" ∧ ∃ S n, H p = some (.set S n))
 | _ => False
theorem Pd {pins : List (Addr × Obj)} {σ : St} {H : Hp} {s : Shared} {T : String} {x : V} {v : Value} (I : Inv X pins σ H s) (r : RelV x v) (ty : tyV X.K T x H) :
  s.TypeIs v T ∧ ∀ a, v = .ref a → ∃ ob, s.heap.get? a = some ob ∧ ob.dict = none := by
 cases x with
 | str z =>
  obtain ⟨t, rfl⟩ := r
  cases (show T = "str" from ty)
  exact ⟨typeIs_str s z t, fun _ e => nomatch e⟩
 | int i =>
  obtain ⟨t, rfl⟩ := r
  cases (show T = "int" from ty)
  exact ⟨typeIs_int s i t, fun _ e => nomatch e⟩
 | ref p =>
  cases r
  rcases ty with ⟨rfl, xs, hq⟩ | ⟨rfl, o, hk, hc, hd⟩ | ⟨rfl, hk⟩ | ⟨rfl, S, n, hk⟩
  ·obtain ⟨its, _, pl, _⟩ := I.list hq
   refine ⟨pl.isList.typeIs, fun a e => ?_⟩
   cases e
   obtain ⟨o, n, e, c, hd, _⟩ := pl
   exact ⟨o, e, hd⟩
  ·refine ⟨⟨o, I.kIn p o hk, hc⟩, fun a e => ?_⟩
   cases e
   exact ⟨o, I.kIn _ o hk, hd⟩
  ·have z : ∃ o, s.heap.get? p = some o ∧ o.ExactDict := by
    rcases hk with ⟨kvs, hk⟩ | ⟨kvs, hk⟩
    ·obtain ⟨_, _, _, _, o, _, _, e, ex, _⟩ := I.hok p _ hk
     exact ⟨o, e, ex⟩
    ·obtain ⟨_, _, _, _, o, _, _, e, ex, _⟩ := I.hok p _ hk
     exact ⟨o, e, ex⟩
   obtain ⟨o, e, ex⟩ := z
   refine ⟨⟨o, e, ex.1⟩, fun a e2 => ?_⟩
   cases e2
   exact ⟨o, e, ex.2.1⟩
  ·obtain ⟨o, _, _, _, e, ex, _⟩ := I.hok p _ hk
   refine ⟨⟨o, e, ex.1⟩, fun a e2 => ?_⟩
   cases e2
   exact ⟨o, e, ex.2.1⟩
 | _ => exact False.elim ty
noncomputable def ZfF (K : PySem.W.Frag) (T : String) (r : V → List V → Hp → VK → Prop) (to : TE) : TE := fun σ H Q => to σ H fun x H1 => tyV K T x H1 ∧ r x [] H1 Q
noncomputable def tBM (K : PySem.W.Frag) (T : String) (r : V → List V → Hp → VK → Prop) (to : TE) (t : TA) : TE := fun σ H Q => to σ H fun x H1 => tyV K T x H1 ∧ t σ H1 fun xs H2 => r x xs H2 Q
variable {o e : Expr} {es : List Expr} {to : TE} {t : TA} {name : Str} {apos cpos : Pos} {T id : String} {r : V → List V → Hp → VK → Prop}
theorem Zac (pa : PlainAttrs T) (slot : Slot T name id) (hty : typeOf (.builtin id) = pure (.type "method_descriptor")) (hm : MtR X id r) (ho : PE X o to)
  (hbase : autoParam (attributeBase o name X.env (eval o X.env) = eval o X.env) zz3._auto_1) (hline : autoParam ((apos.endLine == cpos.line) = true) zz3._auto_1) : PE X (.Call (.Attribute o name apos) [] [] cpos) (ZfF X.K T r to) := by
 intro pins s σ H Q I h
 refine wpAny_Call_method0_late hbase hline (thn (ho pins s σ H _ I h) fun v s1 ⟨x, H1, I1, r1, ty, q1⟩ => ?_)
 obtain ⟨h1, h2⟩ := Pd I1 r1 ty
 exact ⟨T, id, pa, slot, hty, h1, h2, Calls.callWith_builtin rfl (PySem.evalArgs_none (hm pins s1 σ H1 x [] v [] Q I1 r1 .nil q1))⟩
theorem Za8 (pa : PlainAttrs T) (slot : Slot T name id) (hty : typeOf (.builtin id) = pure (.type "method_descriptor")) (hm : MtR X id r) (ho : PE X o to) (ha : PA X (e :: es) t)
  (hbase : autoParam (attributeBase o name X.env (eval o X.env) = eval o X.env) zz3._auto_1)
  (hfew : ((backTo cpos (starEach (e :: es) X.env)).all (fun x => !x.1) && (backToKw cpos (keywordEach [] X.env)).all (fun x => x.1.isSome)
   && decide ((e :: es).length + ([] : List Keyword).length + (if ([] : List Keyword).isEmpty then 0 else 1) < 30)) = true := by rfl)
  (hline : autoParam ((apos.endLine == cpos.line) = true) zz3._auto_1) (hs : autoParam (starEach (e :: es) X.env = (false, eval e X.env) :: starEach es X.env) zz3._auto_1) (hplain : autoParam ((backTo cpos (starEach es X.env)).any (·.1) = false) zz3._auto_1) :
  PE X (.Call (.Attribute o name apos) (e :: es) [] cpos) (tBM X.K T r to t) := by
 intro pins s σ H Q I h
 refine wpAny_Call_method_late hbase hfew hline rfl (thn (ho pins s σ H _ I h) fun v s1 ⟨x, H1, I1, r1, ty, q1⟩ => ?_)
 obtain ⟨h1, h2⟩ := Pd I1 r1 ty
 refine ⟨T, id, pa, slot, hty, h1, h2, ?_⟩
 have hA := ha cpos pins s1 σ H1 _ I1 q1
 rw [hs] at hA ⊢
 refine Calls.callWith_builtin (by show (false || (backTo cpos (starEach es X.env)).any (·.1)) = false; rw [hplain] <;> rfl) (Calls.evalArgs_plain ?_)
 exact thn hA fun us s2 ⟨vs, H2, I2, r2, q2⟩ => hm pins s2 σ H2 x vs v us Q I2 r1 r2 q2
end
end L2
namespace L2
open PySem PySem.Spec PyProof.Rows
noncomputable def MtM (X : Cx) (id : String) (r : V → List V → Hp → VK → Prop) : Prop :=
 ∀ (pins : List (Addr × Obj)) (s : Shared) (σ : St) (H : Hp) (x : V) (xs : List V) (v : Value) (us : List Value) (Q : VK), Inv X pins σ H s → RelV x v → Vals xs us → r x xs H Q →
  wpAny (model X.prog X.w) X.A (call (.builtin id) (v :: us)) (EP X pins σ Q) X.xe s
theorem Vals.one : ∀ {x : V} {us : List Value}, Vals [x] us → ∃ u, us = [u] ∧ RelV x u
 | _, _, .cons r .nil => ⟨_, rfl, r⟩
theorem Vals.two : ∀ {x y : V} {us : List Value}, Vals [x, y] us → ∃ u v, us = [u, v] ∧ RelV x u ∧ RelV y v
 | _, _, _, .cons r (.cons q .nil) => ⟨_, _, rfl, r, q⟩
theorem Vals.zero : ∀ {us : List Value}, Vals [] us → us = []
 | _, .nil => rfl
theorem Vals.dropLast {xs : List V} {us : List Value} (h : Vals xs us) : Vals xs.dropLast us.dropLast := by
 induction h with
 | nil => exact .nil
 | cons r t ih =>
  cases t with
  | nil => exact .nil
  | cons q t' => exact .cons r ih
theorem De {α : Type} (l : List α) : l.eraseIdx (l.length - 1) = l.dropLast := by
 induction l with
 | nil => rfl
 | cons a r ih =>
  cases r with
  | nil => rfl
  | cons b r =>
   have e : (a :: b :: r).length - 1 = ((b :: r).length - 1) + 1 := by
    have h1 : (a :: b :: r).length = r.length + 2 := rfl
    have h2 : (b :: r).length = r.length + 1 := rfl
    omega
   rw [e, List.eraseIdx_cons_succ, ih]
   all_goals rfl
section
variable {X : Cx} {pins : List (Addr × Obj)} {σ : St} {H : Hp} {s : Shared} {l b : Addr} {xs ys zs : List V}
theorem Inv.ZdM {its its' : List Value} {n : Nat} {f : Array Value → Array Value} {t' : Nat} (I : Inv X pins σ H s) (hH : H l = some (.lst xs))
  (e : s.heap.get? l = some { cls := .type "list", data := .seq its.toArray n }) (hf : f its.toArray = its'.toArray) (hv : Vals ys its') (hz : ys.length ≤ sizeLine) :
  Inv X pins σ (upd H l (.lst ys)) { s with heap := s.heap.update l (Obj.mapSeq f), toks := t' } := by
 have q := PySem.IsL.update e f
 rw [hf] at q
 refine I.write (x := l) (e := l) (by rw [hH]; exact trivial) (.inl rfl) (fun b' u hb hu => (Heap.get?_update_other s.heap (Obj.mapSeq f) (Ne.symm hb)).trans hu) ⟨_, q⟩ ?_
 exact ⟨hz, its', _, hv, q⟩
theorem Inv.Zfu {its : List Value} {t' : Nat} (I : Inv X pins σ H s) (hv : Vals ys its) (hz : ys.length ≤ sizeLine) :
  Inv X pins σ (upd H s.heap.objs.size (.lst ys)) { s with heap := s.heap.push { cls := .type "list", data := .seq its.toArray }, toks := t' } :=
 I.laid (fun _ _ q => Heap.get?_push_of_some _ q) (Nat.le_refl _) ⟨hz, its, 0, hv, Heap.get?_push_size _ rfl⟩
theorem Inv.fresh (I : Inv X pins σ H s) : H s.heap.objs.size = none := I.hok.fresh (Nat.le_refl _)
theorem Inv.ZcF (I : Inv X pins σ H s) (hH : H l = some (.lst xs)) : xs.length ≤ sizeLine ∧ ∃ (its : List Value) (n : Nat), Vals xs its ∧ xs.length = its.length ∧ s.heap.get? l = some { cls := .type "list", data := .seq its.toArray n } := by
 obtain ⟨z, its, n, r, e⟩ := I.hok l _ hH
 exact ⟨z, its, n, r, r.length, e⟩
theorem MG {n : Nat} (h : n ≤ sizeLine) : Builtin.List.listTooLong n = false := by
 unfold Builtin.List.listTooLong
 exact decide_eq_false (by omega)
end
section
variable {X : Cx}
noncomputable def Se : V → List V → Hp → VK → Prop := fun x vs H Q => ∃ l xs y, x = .ref l ∧ vs = [y] ∧ H l = some (.lst xs) ∧ xs.length < sizeLine ∧ Q .non (upd H l (.lst (xs ++ [y])))
theorem Lk : MtM X "list.append" Se := by
 intro pins s σ H x vs v us Q I rx rv h
 obtain ⟨l, xs, y, rfl, rfl, hH, hz, q⟩ := h
 cases rx
 obtain ⟨u, rfl, ru⟩ := rv.one
 obtain ⟨z, its, n, r, hl, e⟩ := I.ZcF hH
 refine call_meets F.slot_list_append ⟨_, e, rfl⟩ F.entry_list_append (F.args_list_append_2 _ _) (PySem.list_append l its.toArray n u (by rw [List.size_toArray]; omega)) ⟨e, ?_⟩
 refine ⟨.non, _, I.ZdM (its' := its ++ [u]) hH e (by simp) (r.append (.cons ru .nil)) ?_, rfl, q⟩
 rw [List.length_append, List.length_singleton]
 omega
noncomputable def RW : V → List V → Hp → VK → Prop := fun x vs H Q => ∃ l b xs zs, x = .ref l ∧ vs = [.ref b] ∧ H l = some (.lst xs) ∧ H b = some (.lst zs) ∧ xs.length + zs.length ≤ sizeLine ∧ Q .non (upd H l (.lst (xs ++ zs)))
theorem HS : MtM X "list.extend" RW := by
 intro pins s σ H x vs v us Q I rx rv h
 obtain ⟨l, b, xs, zs, rfl, rfl, hH, hB, hz, q⟩ := h
 cases rx
 obtain ⟨u, rfl, ru⟩ := rv.one
 cases ru
 obtain ⟨z, its, n, r, hl, e⟩ := I.ZcF hH
 obtain ⟨z2, its2, n2, r2, hl2, e2⟩ := I.ZcF hB
 have hsz : its.toArray.size + its2.toArray.size ≤ sizeLine := by rw [List.size_toArray, List.size_toArray]; omega
 have hlong : ¬ (!its.toArray.isEmpty && Builtin.List.listTooLong (its.toArray.size + its2.toArray.size)) = true := by
  rw [MG hsz, Bool.and_false]
  exact Bool.false_ne_true
 refine call_meets F.slot_list_extend ⟨_, e, rfl⟩ F.entry_list_extend (F.args_list_extend_2 _ _)
  (AutoSeq1.list_extend_list_list_0 l its.toArray n b its2.toArray n2 hlong (by rw [List.size_toArray]; omega) (by omega)) ⟨e, e2, ?_⟩
 refine ⟨.non, _, I.ZdM (its' := its ++ its2) hH e (by simp) (r.append r2) ?_, rfl, q⟩
 rw [List.length_append]
 omega
noncomputable def ZfB : V → List V → Hp → VK → Prop := fun x vs H Q => ∃ l xs y, x = .ref l ∧ vs = [] ∧ H l = some (.lst xs) ∧ xs[xs.length - 1]? = some y ∧ Q y (upd H l (.lst xs.dropLast))
theorem ZbC : MtM X "list.pop" ZfB := by
 intro pins s σ H x vs v us Q I rx rv h
 obtain ⟨l, xs, y, rfl, rfl, hH, hy, q⟩ := h
 cases rx
 have hus := rv.zero
 subst hus
 obtain ⟨z, its, n, r, hl, e⟩ := I.ZcF hH
 obtain ⟨u, hu, ru⟩ := r.get hy
 have hy' : its.toArray[its.toArray.size - 1]? = some u := by
  show its.toArray[its.length - 1]? = some u
  rw [← Array.getElem?_toList, ← hl]
  exact hu
 refine call_meets F.slot_list_pop ⟨_, e, rfl⟩ F.entry_list_pop (F.args_list_pop_1 _) (MeetsSeq.list_pop_last l its.toArray n u hy' (by rw [List.size_toArray]; omega)) ⟨e, ?_⟩
 refine ⟨y, _, I.ZdM (its' := its.dropLast) hH e ?_ r.dropLast ?_, ru, q⟩
 ·show its.toArray.eraseIdxIfInBounds (its.toArray.size - 1) = its.dropLast.toArray
  rw [List.size_toArray, List.eraseIdxIfInBounds_toArray, De]
 ·rw [List.length_dropLast]
  omega
noncomputable def Zei : V → List V → Hp → VK → Prop := fun x vs H Q => ∃ l xs i k y, x = .ref l ∧ vs = [.int i] ∧ H l = some (.lst xs) ∧ -(2 ^ 63) ≤ i ∧ i < 2 ^ 63 ∧ seqIndex? i xs.length = some k ∧ xs[k]? = some y ∧ Q y (upd H l (.lst (xs.eraseIdx k)))
noncomputable def ZcJ : V → List V → Hp → VK → Prop := fun x vs H Q => ∃ l xs, x = .ref l ∧ vs = [] ∧ H l = some (.lst xs) ∧ Q .non (upd H l (.lst xs.reverse))
noncomputable def Zeu : V → List V → Hp → VK → Prop := fun x vs H Q => ∃ l xs, x = .ref l ∧ vs = [] ∧ H l = some (.lst xs) ∧ Q .non (upd H l (.lst []))
noncomputable def ZfU : R2 := fun x y H Q => ∃ l b xs zs, x = .ref l ∧ y = .ref b ∧ H l = some (.lst xs) ∧ H b = some (.lst zs) ∧ xs.length + zs.length ≤ sizeLine ∧ ∀ p, H p = none → Q (.ref p) (upd H p (.lst (xs ++ zs)))
noncomputable def Zf6 : R2 := fun x y H Q => ∃ l k xs, x = .ref l ∧ y = .int k ∧ H l = some (.lst xs) ∧ -(2 ^ 63) ≤ k ∧ k < 2 ^ 63 ∧ xs.length * k.toNat ≤ sizeLine ∧
 ∀ p, H p = none → Q (.ref p) (upd H p (.lst (List.replicate k.toNat xs).flatten))
end
section
variable {prog : Program} {w : World} {A : Around} {E : Value → Shared → Prop} {s : Shared}
set_option maxRecDepth 100000 in
end
section
variable {X : Cx}
end
end L2
namespace L2
open PySem PySem.Spec PyProof.Rows
section
variable {κ : Type} [DecidableEq κ]
noncomputable def UY (kvs : List (κ × V)) (k : κ) : Option V := (kvs.find? fun kv => decide (kv.1 = k)).map (·.2)
noncomputable def putK (kvs : List (κ × V)) (k : κ) (v : V) : List (κ × V) :=
 if (kvs.any fun kv => decide (kv.1 = k)) = true then kvs.map (fun kv => if kv.1 = k then (kv.1, v) else kv) else kvs ++ [(k, v)]
noncomputable def FI (kvs : List (κ × V)) (k : κ) : List (κ × V) := kvs.filter fun kv => decide (kv.1 ≠ k)
theorem Cf {p : κ × V} {r : List (κ × V)} {k : κ} (e : p.1 = k) : UY (p :: r) k = some p.2 := by simp [UY, List.find?_cons, e]
theorem C6 {p : κ × V} {r : List (κ × V)} {k : κ} (e : ¬ p.1 = k) : UY (p :: r) k = UY r k := by simp [UY, List.find?_cons, e]
theorem X2 (k : κ) : ∀ kvs : List (κ × V), (kvs.any fun kv => decide (kv.1 = k)) = (UY kvs k).isSome
 | [] => rfl
 | p :: r => by
  rw [List.any_cons]
  by_cases e : p.1 = k
  ·simp only [Cf e, decide_eq_true e, Bool.true_or, Option.isSome_some]
  ·rw [C6 e, decide_eq_false e, Bool.false_or]; exact X2 k r
theorem KN (kvs : List (κ × V)) (k : κ) (v : V) : (putK kvs k v).length ≤ kvs.length + 1 := by
 unfold putK
 split
 ·rw [List.length_map]; omega
 ·rw [List.length_append, List.length_cons, List.length_nil]; omega
theorem Zan.Gd {o : Option V} {u : Option Value} (r : Zan o u) : o.isSome = u.isSome := by
 cases o with
 | none => cases u with
  | none => rfl
  | some _ => exact (show False from r).elim
 | some _ => cases u with
  | none => exact (show False from r).elim
  | some _ => rfl
theorem KV.any {kvs : List (κ × V)} {vs : List (κ × Value)} (r : KV kvs vs) (k : κ) : (kvs.any fun kv => decide (kv.1 = k)) = vs.any fun kv => decide (kv.1 = k) := by
 unfold KV at r
 induction r with
 | nil => rfl
 | cons h t ih => rw [List.any_cons, List.any_cons, ih, h.1]
theorem KV.Zc2 {kvs : List (κ × V)} {vs : List (κ × Value)} (r : KV kvs vs) (k : κ) {y : V} {u : Value} (ry : RelV y u) :
  KV (kvs.map fun kv => if kv.1 = k then (kv.1, y) else kv) (vs.map fun kv => if kv.1 = k then (kv.1, u) else kv) := by
 unfold KV at r ⊢
 induction r with
 | nil => exact .nil
 | @cons p q ps qs h t ih =>
  rw [List.map_cons, List.map_cons]
  refine .cons ?_ ih
  obtain ⟨h1, h2⟩ := h
  by_cases e : p.1 = k
  ·rw [if_pos e, if_pos (h1.symm.trans e)]; exact ⟨h1, ry⟩
  ·rw [if_neg e, if_neg (fun z => e (h1.trans z))]; exact ⟨h1, h2⟩
theorem KV.put {kvs : List (κ × V)} {vs : List (κ × Value)} (r : KV kvs vs) (k : κ) {y : V} {u : Value} (ry : RelV y u) : KV (putK kvs k y) (stored vs k u) := by
 unfold putK stored
 rw [r.any k]
 by_cases e : (vs.any fun kv => decide (kv.1 = k)) = true
 ·rw [if_pos e, if_pos e]; exact r.Zc2 k ry
 ·rw [if_neg e, if_neg e]; exact Paired.snoc r ⟨rfl, ry⟩
theorem KV.drop {kvs : List (κ × V)} {vs : List (κ × Value)} (r : KV kvs vs) (k : κ) : KV (FI kvs k) (without vs k) := by
 unfold KV at r ⊢
 unfold FI without
 induction r with
 | nil => exact .nil
 | @cons p q ps qs h t ih =>
  obtain ⟨h1, h2⟩ := h
  rw [List.filter_cons, List.filter_cons]
  by_cases e : p.1 = k
  ·have a : ¬ decide (p.1 ≠ k) = true := by simp [e]
   have b : ¬ decide (q.1 ≠ k) = true := by simp [h1.symm.trans e]
   rw [if_neg a, if_neg b]; exact ih
  ·have e' : ¬ q.1 = k := fun z => e (h1.trans z)
   have a : decide (p.1 ≠ k) = true := by simp [e]
   have b : decide (q.1 ≠ k) = true := by simp [e']
   rw [if_pos a, if_pos b]; exact .cons ⟨h1, h2⟩ ih
theorem KV.length {kvs : List (κ × V)} {vs : List (κ × Value)} (r : KV kvs vs) : kvs.length = vs.length := Paired.length r
end
theorem Zba {P : Program} {w : World} {k : Key} {u : Value} (r : RelV (kV k) u) : (Qx P w).is k u = true := by
 cases k with
 | inl i => obtain ⟨t, e⟩ := (show ∃ t, u = Value.int i t from r); subst e; exact B2 P w i t
 | inr x => obtain ⟨t, e⟩ := (show ∃ t, u = Value.str x t from r); subst e; exact G2 P w x t
theorem Kd {P : Program} {w : World} : ∀ {ks : List Key} {us : List Value}, Vals (ks.map kV) us → ItemsAre (Qx P w) ks us
 | [], _, r => by rw [List.map_nil] at r; cases r; exact .nil
 | k :: ks, _, r => by
  rw [List.map_cons] at r
  cases r with
  | cons h t => exact .cons (Zba h) (Kd t)
noncomputable abbrev KT (H : Hp) : List (List Key × V) → List (List Key × Addr × Value) → Prop := Paired fun p q => p.1 = q.1 ∧ H q.2.1 = some (.tup (p.1.map kV)) ∧ RelV p.2 q.2.2
theorem KT.val {H : Hp} {kvs : List (List Key × V)} {xs : List (List Key × Addr × Value)} (r : KT H kvs xs) (k : List Key) : Zan (UY kvs k) ((atKey xs k).map (·.2)) := by
 induction r with
 | nil => exact True.intro
 | @cons p q ps qs h t ih =>
  obtain ⟨h1, _, h2⟩ := h
  by_cases e : p.1 = k
  ·have e' : q.1 = k := h1.symm.trans e
   have b : atKey (q :: qs) k = some q.2 := by simp [atKey, List.find?_cons, e']
   rw [Cf e, b]; exact h2
  ·have e' : ¬ q.1 = k := fun z => e (h1.trans z)
   have b : atKey (q :: qs) k = atKey qs k := by simp [atKey, List.find?_cons, e']
   rw [C6 e, b]; exact ih
theorem KT.Zc2 {H : Hp} {kvs : List (List Key × V)} {xs : List (List Key × Addr × Value)} (r : KT H kvs xs) (k : List Key) {y : V} {u : Value} (ry : RelV y u) :
  KT H (kvs.map fun kv => if kv.1 = k then (kv.1, y) else kv) (xs.map (putAt k u)) := by
 induction r with
 | nil => exact .nil
 | @cons p q ps qs h t ih =>
  rw [List.map_cons, List.map_cons]
  refine .cons ?_ ih
  obtain ⟨h1, h2, h3⟩ := h
  unfold putAt
  by_cases e : p.1 = k
  ·rw [if_pos e, if_pos (h1.symm.trans e)]; exact ⟨h1, h2, ry⟩
  ·rw [if_neg e, if_neg (fun z => e (h1.trans z))]; exact ⟨h1, h2, h3⟩
theorem KT.put {H : Hp} {kvs : List (List Key × V)} {xs : List (List Key × Addr × Value)} (r : KT H kvs xs) (k : List Key) {b : Addr} {y : V} {u : Value} (hb : H b = some (.tup (k.map kV))) (ry : RelV y u) :
  KT H (putK kvs k y) (storedH xs k b u) := by
 have e : (kvs.any fun kv => decide (kv.1 = k)) = (atKey xs k).isSome := by
  rw [X2, (r.val k).Gd, Option.isSome_map]
 unfold putK storedH
 rw [e]
 by_cases q : (atKey xs k).isSome = true
 ·rw [if_pos q, if_pos q]; exact r.Zc2 k ry
 ·rw [if_neg q, if_neg q]; exact Paired.snoc r ⟨rfl, hb, ry⟩
theorem KT.keeps {H H' : Hp} {kvs : List (List Key × V)} {xs : List (List Key × Addr × Value)} (r : KT H kvs xs) (ht : ∀ b ys, H b = some (.tup ys) → H' b = some (.tup ys)) : KT H' kvs xs :=
 Paired.ZcV r fun _ _ z => ⟨z.1, ht _ _ z.2.1, z.2.2⟩
section
variable {P : Program} {w : World} {H : Hp} {h : Heap} {a : Addr}
theorem Zcu {u : HO} (ok : HOk P w H h) (e : Rd H a u) : Q5 P w H h a u := e.ok ok
theorem Zdi {kvs : List (Key × V)} (ok : HOk P w H h) (e : Rd H a (.dK kvs)) : kvs.length ≤ sizeLine ∧ (a == sysModules) = false ∧ ∃ vs, KV kvs vs ∧ h.DictOf (Qx P w) a vs :=
 show Q5 P w H h a (.dK kvs) from Zcu ok e
theorem Zc0 {kvs : List (Key × V)} (ok : HOk P w H h) (e : H a = some (.dK kvs)) : kvs.length ≤ sizeLine ∧ (a == sysModules) = false ∧ ∃ vs, KV kvs vs ∧ h.DictOf (Qx P w) a vs := Zdi ok (.inl e)
theorem PM {ks : List Key} (ok : HOk P w H h) (e : H a = some (.tup (ks.map kV))) : (tupleKind (Qx P w)).is h ks a := by
 obtain ⟨_, its, r, o, h1, h2, n, h3⟩ := (show Q5 P w H h a (.tup (ks.map kV)) from ok a _ e)
 exact ⟨o, its.toArray, n, h1, h2, h3, by simpa using Kd r⟩
theorem Zcw {kvs : List (List Key × V)} (ok : HOk P w H h) (e : Rd H a (.dT kvs)) : kvs.length ≤ sizeLine ∧ (a == sysModules) = false ∧
  ∃ xs, KT H kvs xs ∧ h.DictOfH (tupleKind (Qx P w)) a xs := by
 obtain ⟨z, y, xs, r, o, es, ep, h1, h2, h3, h4, h5⟩ := (show Q5 P w H h a (.dT kvs) from Zcu ok e)
 refine ⟨z, y, xs, r, o, es, ep, h1, h2, h3, h4, fun x hx => ?_, h5⟩
 have all : ∀ {l : List (List Key × V)} {m : List (List Key × Addr × Value)}, KT H l m → ∀ x ∈ m, (tupleKind (Qx P w)).is h x.1 x.2.1 := by
  intro l m q
  induction q with
  | nil => intro x hx; exact nomatch hx
  | @cons p q ps qs hq t ih =>
   intro x hx
   rcases List.mem_cons.mp hx with e | hx
   ·subst e
    exact PM ok (by rw [← hq.1]; exact hq.2.1)
   ·exact ih x hx
 exact all r x hx
theorem ZdX {kvs : List (List Key × V)} (ok : HOk P w H h) (e : H a = some (.dT kvs)) : kvs.length ≤ sizeLine ∧ (a == sysModules) = false ∧
  ∃ xs, KT H kvs xs ∧ h.DictOfH (tupleKind (Qx P w)) a xs := Zcw ok (.inl e)
end
noncomputable def LN (H : Hp) (a : Addr) (y : V) (r : Option V) : Prop :=
 (∃ kvs k, Rd H a (.dK kvs) ∧ y = kV k ∧ r = UY kvs k) ∨ ∃ kvs k b, Rd H a (.dT kvs) ∧ y = .ref b ∧ H b = some (.tup (k.map kV)) ∧ r = UY kvs k
noncomputable def PL (H : Hp) (a : Addr) (y v : V) (H' : Hp) : Prop :=
 (∃ kvs k, H a = some (.dK kvs) ∧ y = kV k ∧ kvs.length < sizeLine ∧ H' = upd H a (.dK (putK kvs k v))) ∨
 ∃ kvs k b, H a = some (.dT kvs) ∧ y = .ref b ∧ H b = some (.tup (k.map kV)) ∧ kvs.length < sizeLine ∧ H' = upd H a (.dT (putK kvs k v))
theorem LN.k {H : Hp} {a : Addr} {kvs : List (Key × V)} {k : Key} (e : H a = some (.dK kvs)) : LN H a (kV k) (UY kvs k) := .inl ⟨kvs, k, .inl e, rfl, rfl⟩
theorem LN.t {H : Hp} {a b : Addr} {kvs : List (List Key × V)} {k : List Key} (e : H a = some (.dT kvs)) (eb : H b = some (.tup (k.map kV))) : LN H a (.ref b) (UY kvs k) := .inr ⟨kvs, k, b, .inl e, rfl, eb, rfl⟩
theorem PL.k {H : Hp} {a : Addr} {kvs : List (Key × V)} {k : Key} {v : V} (e : H a = some (.dK kvs)) (hl : kvs.length < sizeLine) : PL H a (kV k) v (upd H a (.dK (putK kvs k v))) := .inl ⟨kvs, k, e, rfl, hl, rfl⟩
theorem PL.t {H : Hp} {a b : Addr} {kvs : List (List Key × V)} {k : List Key} {v : V} (e : H a = some (.dT kvs)) (eb : H b = some (.tup (k.map kV))) (hl : kvs.length < sizeLine) :
  PL H a (.ref b) v (upd H a (.dT (putK kvs k v))) := .inr ⟨kvs, k, b, e, rfl, eb, hl, rfl⟩
section
variable {X : Cx} {pins : List (Addr × Obj)} {σ : St} {H : Hp} {s : Shared} {a : Addr} {y v : V} {u r : Value} {o : Option V} {A : Around} {E : Value → Shared → Prop}
theorem Inv.big (I : Inv X pins σ H s) : sysModules < s.heap.objs.size := by
 have h : mainGlobals < s.heap.objs.size := (I.mod.glob.keeps I.bk).lt
 exact Nat.lt_trans (by decide) h
theorem FK {h' : Heap} {t' : Nat} {ob : HO} (I : Inv X pins σ H s) (mu : Mut (H a)) (hs : Heap.SameBut a s.heap h') (he : ∃ q, h'.get? a = some q) (new : Q5 X.prog X.w (upd H a ob) h' a ob) :
  Inv X pins σ (upd H a ob) { s with heap := h', toks := t' } :=
 I.write (x := a) (e := a) mu (.inl rfl) (fun b q hb z => (hs.2 b hb).trans z) he new
theorem Zaq {P : Program} {w : World} {H' : Hp} {h' : Heap} {kvs : List (Key × V)} {vs : List (Key × Value)} (z : kvs.length ≤ sizeLine) (hd : (a == sysModules) = false) (rel : KV kvs vs) (dd : h'.DictOf (Qx P w) a vs) :
  Q5 P w H' h' a (.dK kvs) := ⟨z, hd, vs, rel, dd⟩
theorem E4 {H' : Hp} {Q : Unit → Shared → Prop} (hu : A.units + 1 < cLine) (I : Inv X pins σ H s) (g : PL H a y v H') (ry : RelV y u) (rv : RelV v r) (h : ∀ s', Inv X pins σ H' s' → Q () s') :
  wpAny (model X.prog X.w) A (setItem (.ref a) u r) Q E s := by
 rcases g with ⟨kvs, k, e, ey, l, eH⟩ | ⟨kvs, k, b, e, ey, eb, l, eH⟩
 ·subst ey eH
  obtain ⟨z, hd, vs, rel, dd⟩ := Zc0 I.hok e
  have hz : vs.length ≤ sizeLine := by rw [← rel.length]; exact z
  have hl : (putK kvs k v).length ≤ sizeLine := by have := KN kvs k v; omega
  refine wpAny_setItem_pairs (hsz := hz) (Zba ry) dd fun h' dd' hs => h _ ?_
  have he : ∃ q, h'.get? a = some q := let ⟨q, _, _, hq, _⟩ := dd'; ⟨q, hq⟩
  exact FK I (by rw [e]; exact True.intro) hs he (Zaq hl hd (rel.put k rv) dd')
 ·subst ey eH
  cases (show u = Value.ref b from ry)
  obtain ⟨z, hd, xs, rel, dd⟩ := ZdX I.hok e
  have hz : xs.length ≤ sizeLine := by rw [← Paired.length rel]; exact z
  have hl : (putK kvs k v).length ≤ sizeLine := by have := KN kvs k v; omega
  refine wpAny_setItem_heap (hsz := hz) (tupleKind_room_in1 hu) (PM I.hok eb) dd fun h' dd' hs => h _ ?_
  obtain ⟨q, es, ep, hq, h2, h3, h4, _, h5⟩ := dd'
  refine FK I (by rw [e]; exact True.intro) hs ⟨q, hq⟩ ⟨hl, hd, _, (rel.put k eb rv).keeps fun c ys ec => ?_, q, es, ep, hq, h2, h3, h4, h5⟩
  rw [ZW (Zda ec e (fun z => nomatch z))]
  exact ec
end
section
variable {X : Cx} {pins : List (Addr × Obj)} {σ : St} {H : Hp} {s : Shared} {a : Addr} {kvs : List (Key × V)} {k : Key} {u : Value} {A : Around} {E : Value → Shared → Prop}
end
noncomputable def Zf0 (i : Expr) : Prop := ∀ ov iv, subscripted i false ov iv = operate [ov, iv] (getItem ov iv)
noncomputable def Zfb (td ty : TE) : TE := fun σ H Q => td σ H fun x H1 => ty σ H1 fun y H2 => ∃ a v, x = .ref a ∧ LN H2 a y (some v) ∧ Q v H2
noncomputable def Zf2 (ty td : TE) : TE := fun σ H Q => ty σ H fun y H1 => td σ H1 fun x H2 => ∃ a o, x = .ref a ∧ LN H2 a y o ∧ Q (.bl o.isSome) H2
noncomputable def Zdh (ty td : TE) : TE := fun σ H Q => ty σ H fun y H1 => td σ H1 fun x H2 => ∃ a o, x = .ref a ∧ LN H2 a y o ∧ Q (.bl (!o.isSome)) H2
noncomputable def ZdR (td ty tv : TE) : TS := fun D σ H => tv σ H fun v H1 => td σ H1 fun x H2 => ty σ H2 fun y H3 => ∃ a H4, x = .ref a ∧ PL H3 a y v H4 ∧ D.nx σ H4
noncomputable def Zfe (td ty tv : TE) (rd : V → V → Hp → VK → Prop) : TS := fun D σ H => td σ H fun x H1 => ty σ H1 fun y H2 => ∃ a v, x = .ref a ∧ LN H2 a y (some v) ∧
 tv σ H2 fun y2 H3 => rd v y2 H3 fun z H4 => ∃ H5, PL H4 a y z H5 ∧ D.nx σ H5
noncomputable def ZfQ (td ty : TE) : TS := fun D σ H => td σ H fun x H1 => ty σ H1 fun y H2 => ∃ a kvs k, x = .ref a ∧ H2 a = some (.dK kvs) ∧ y = kV k ∧ (UY kvs k).isSome = true ∧ D.nx σ (upd H2 a (.dK (FI kvs k)))
section
variable {X : Cx} {o i e value : Expr} {pos pos' tpos : Pos} {td ty tv : TE}
theorem SF (hu : X.A.units + 1 < cLine) (ho : PE X o td) (hi : PE X i ty) (hv : PE X value tv) (hs : swapsWith value (some (.Subscript o i pos')) pos.line X.env = pure false) :
  PS X (.Assign [.Subscript o i pos'] value pos) (ZdR td ty tv) := by
 intro pins s σ H D I h
 refine wpAny_Assign_Subscript (thn (hv pins s σ H _ I h) fun r s1 ⟨v, H1, I1, rv, q1⟩ => thn (ho pins s1 σ H1 _ I1 q1) fun u s2 ⟨x, H2, I2, rx, q2⟩ => thn (hi pins s2 σ H2 _ I2 q2) fun iv s3 ⟨y, H3, I3, ry, a, H4, ex, g, q3⟩ => ?_) hs
 subst ex
 obtain rfl : u = Value.ref a := rx
 exact E4 hu I3 g ry rv fun s4 I4 => ⟨σ, H4, I4, q3⟩
end
theorem MY {P : Program} {w : World} {H : Hp} (h : Heap) (hb : sysModules < h.objs.size) : Q5 P w H (h.push { cls := .type "dict", data := .dict #[] }) h.objs.size (.dK []) :=
 ⟨Nat.zero_le _, beq_eq_false_iff_ne.mpr (Ne.symm (Nat.ne_of_lt hb)), [], .nil, Heap.DictOf.new h⟩
theorem NB {P : Program} {w : World} {H : Hp} (h : Heap) (hb : sysModules < h.objs.size) : Q5 P w H (h.push { cls := .type "dict", data := .dict #[] }) h.objs.size (.dT []) :=
 ⟨Nat.zero_le _, beq_eq_false_iff_ne.mpr (Ne.symm (Nat.ne_of_lt hb)), [], .nil, _, #[], 0, Heap.get?_push_size _ rfl, ⟨rfl, rfl, rfl⟩, rfl, rfl, List.nodup_nil⟩
noncomputable def ZbQ : TE := fun _ H Q => ∀ p, H p = none → Q (.ref p) (upd H p (.dK []))
noncomputable def Zbr : TE := fun _ H Q => ∀ p, H p = none → Q (.ref p) (upd H p (.dT []))
section
variable {X : Cx} {pos : Pos}
theorem MD : PE X (.Dict [] [] pos) ZbQ := fun pins s σ H Q I h =>
 wpAny_Dict_empty ⟨.ref s.heap.objs.size, _, I.laid (a := s.heap.objs.size) (o := .dK []) (t' := s.toks) (fun _ _ q => Heap.get?_push_of_some _ q) (Nat.le_refl _) (MY s.heap I.big), rfl, h _ (I.hok.fresh (Nat.le_refl _))⟩
theorem Nl : PE X (.Dict [] [] pos) Zbr := fun pins s σ H Q I h =>
 wpAny_Dict_empty ⟨.ref s.heap.objs.size, _, I.laid (a := s.heap.objs.size) (o := .dT []) (t' := s.toks) (fun _ _ q => Heap.get?_push_of_some _ q) (Nat.le_refl _) (NB s.heap I.big), rfl, h _ (I.hok.fresh (Nat.le_refl _))⟩
end
noncomputable def E7 : List (TE × TE) → St → Hp → (List (V × V) → Hp → Prop) → Prop
 | [], _, H, Q => Q [] H
 | (tk, tv) :: r, σ, H, Q => tk σ H fun x H1 => tv σ H1 fun y H2 => E7 r σ H2 fun ps H3 => Q ((x, y) :: ps) H3
noncomputable abbrev VV : List (V × V) → List (Value × Value) → Prop := Paired fun p q => RelV p.1 q.1 ∧ RelV p.2 q.2
noncomputable def PPs (X : Cx) (pos : Pos) (keys : List (Option Expr)) (values : List Expr) (trs : List (TE × TE)) : Prop :=
 ∀ (pins : List (Addr × Obj)) (s : Shared) (σ : St) (H : Hp) (Q : List (V × V) → Hp → Prop), Inv X pins σ H s → E7 trs σ H Q →
  wpAny (model X.prog X.w) X.A (evalPairs (pairTrees keys values X.env pos)) (fun vs s' => ∃ ps H', Inv X pins σ H' s' ∧ VV ps vs ∧ Q ps H') X.xe s
noncomputable def Zb4 (kvs more : List (Key × V)) : List (Key × V) := more.foldl (fun acc kv => putK acc kv.1 kv.2) kvs
noncomputable def Zfi (trs : List (TE × TE)) : TE := fun σ H Q => ∀ p, H p = none → E7 trs σ (upd H p (.dK [])) fun ps H2 => H2 p = some (.dK []) ∧ ∃ kvs : List (Key × V), ps = kvs.map (fun kv => (kV kv.1, kv.2)) ∧ kvs.length ≤ 15 ∧ Q (.ref p) (upd H2 p (.dK (Zb4 [] kvs)))
structure M1 (X : Cx) (o : Expr) (m : Str) (apos : Pos) (e : Expr) (cpos : Pos) : Prop where
 base : attributeBase o m X.env (eval o X.env) = eval o X.env
 few : ((backTo cpos (starEach [e] X.env)).all (fun x => !x.1) && (backToKw cpos (keywordEach [] X.env)).all (fun x => x.1.isSome)
  && decide (([e] : List Expr).length + ([] : List Keyword).length + (if ([] : List Keyword).isEmpty then 0 else 1) < 30)) = true
 line : (apos.endLine == cpos.line) = true
 trees : backTo cpos (starEach [e] X.env) = [(false, eval e X.env)]
structure M2 (X : Cx) (o : Expr) (m : Str) (apos : Pos) (e f : Expr) (cpos : Pos) : Prop where
 base : attributeBase o m X.env (eval o X.env) = eval o X.env
 few : ((backTo cpos (starEach [e, f] X.env)).all (fun x => !x.1) && (backToKw cpos (keywordEach [] X.env)).all (fun x => x.1.isSome)
  && decide (([e, f] : List Expr).length + ([] : List Keyword).length + (if ([] : List Keyword).isEmpty then 0 else 1) < 30)) = true
 line : (apos.endLine == cpos.line) = true
 trees : backTo cpos (starEach [e, f] X.env) = [(false, eval e X.env), (false, eval f X.env)]
noncomputable def IsD (H : Hp) (a : Addr) : Prop := (∃ kvs, Rd H a (.dK kvs)) ∨ ∃ kvs, Rd H a (.dT kvs)
section
variable {X : Cx} {pins : List (Addr × Obj)} {σ : St} {H : Hp} {s : Shared} {a : Addr} {y d : V} {u r : Value} {o : Option V} {A : Around} {E : Value → Shared → Prop}
end
noncomputable def ZeL (td ty : TE) : TE := fun σ H Q => td σ H fun x H1 => ∃ a, x = .ref a ∧ IsD H1 a ∧ ty σ H1 fun y H2 => ∃ o, LN H2 a y o ∧ Q (o.getD .non) H2
noncomputable def Zez (td ty tx : TE) : TE := fun σ H Q => td σ H fun x H1 => ∃ a, x = .ref a ∧ IsD H1 a ∧ ty σ H1 fun y H2 => tx σ H2 fun z H3 => ∃ o, LN H3 a y o ∧ Q (o.getD z) H3
noncomputable def Zen (td ty : TE) : TE := fun σ H Q => td σ H fun x H1 => ∃ a, x = .ref a ∧ IsD H1 a ∧ ty σ H1 fun y H2 => ∃ kvs k v, H2 a = some (.dK kvs) ∧ y = kV k ∧ UY kvs k = some v ∧ Q v (upd H2 a (.dK (FI kvs k)))
noncomputable def ZeT (td ty tx : TE) : TE := fun σ H Q => td σ H fun x H1 => ∃ a, x = .ref a ∧ IsD H1 a ∧ ty σ H1 fun y H2 => tx σ H2 fun z H3 => ∃ kvs k, H3 a = some (.dK kvs) ∧ y = kV k ∧
 (∀ v, UY kvs k = some v → Q v (upd H3 a (.dK (FI kvs k)))) ∧ (UY kvs k = none → Q z H3)
section
variable {X : Cx} {o e f : Expr} {apos cpos : Pos} {td ty tx : TE}
end
section
variable {X : Cx} {pins : List (Addr × Obj)} {σ : St} {H : Hp} {s : Shared} {a : Addr} {kvs : List (Key × V)} {A : Around} {E : Value → Shared → Prop}
end
section
variable {X : Cx} {pins : List (Addr × Obj)} {σ : St} {H : Hp} {s : Shared} {a : Addr} {y : V} {u : Value} {A : Around} {E : Value → Shared → Prop}
end
end L2
namespace Att
open PySem PySem.W PySem.Calls PyProof.Rows
theorem KY {P : Params} {h : Heap} : ∀ (ns : List Int) (vs : List Value), WellAll P h vs (ns.map WData.int) → IntsAre vs ns := by
 intro ns
 induction ns with
 | nil =>
  intro vs w
  rw [List.map_nil] at w
  cases w
  exact .nil
 | cons n ns ih =>
  intro vs w
  rw [List.map_cons] at w
  cases w with
  | cons a b =>
   cases a
   exact .cons _ _ (ih _ b)
theorem HK {l : OpenLaw} {n : Nat} (hn : l.most = some n) {P : Params} {h : Heap} {args : List WData} {vals : List Value}
  (hpre : l.row.toRowW.claim.pre args = true) (hwl : WellAll P h vals args) :
  ∃ a vs ns, vals = [Value.ref a] ∧ args = [WData.list (ns.map WData.int)] ∧ h.get? a = some { cls := .type "list", data := .seq vs.toArray } ∧ IntsAre vs ns ∧ ns.length ≤ n := by
 have hsh : WShape.hasAll [] args [.list .int] = true := (pre_splitW hpre).1
 have hc : l.pre.holds [] { args := args } = true := (pre_splitW hpre).2
 obtain ⟨d, r, rfl, h1, h2⟩ := hasAllW_cons hsh
 obtain rfl := hasAllW_nil h2
 obtain ⟨xs, rfl, h3⟩ := hasW_list h1
 obtain ⟨ns, rfl⟩ := items_int h3
 have hlen : ns.length ≤ n := by
  unfold OpenLaw.pre at hc
  have h4 : (WTm.not (.lt (.lit (.int (n : Int))) (.len (.arg 0)))).holds [] { args := [.list (ns.map .int)] } = true := by
   have h4 := (holds_andW hc).1
   rw [hn] at h4
   exact h4
  have h5 := condW_of h4 (w_not (w_lt w_lit (w_len_list (w_arg rfl))))
  rw [List.length_map] at h5
  refine Nat.le_of_not_lt fun q => ?_
  have q' : (n : Int) < ((ns.length : Nat) : Int) := by omega
  first
   | (rw [decide_eq_true q'] at h5; exact absurd h5 (by decide))
   | (simp at h5; omega)
 cases hwl with
 | cons w1 w2 =>
  cases w2
  cases w1 with
  | list ho hall => exact ⟨_, _, ns, rfl, rfl, ho, KY ns _ hall, hlen⟩
theorem Ey (l : OpenLaw) (args : List WData) : l.row.toRowW.claim.post args (.bool true) args = true :=
 postW_of (r := l.row.toRowW) (X := (true == true))
  (show WShape.has [] (.bool true) .bool = true by first | rfl | decide | simp [WShape.has, WShape.arms, WShape.armsAll])
  (show (WTm.eq .res (.lit (.bool true))).value [] { args := args, res := some (.bool true), after := args } = some (.bool (true == true)) from w_eq_bool (w_res rfl) w_lit) rfl
theorem BU {l : OpenLaw} {n : Nat} {q : Program} {loose : List Str} {XP : (Str → Option Value) → Heap → Prop} {YP : World → Heap → Prop} {d : DefRec}
  (hn : l.most = some n) (hdf : d.params.defaults = [])
  (call : ∀ (w : World) (s₀ s₁ : Shared) (mg mb : Str → Option Value) (fa : Addr) (o : Obj) (pm cd doc : Value) (a : Addr) (vs : List Value) (ns : List Int),
   Ground q loose [] XP w s₀ mg mb s₁.heap → YP w s₁.heap →
   s₁.heap.get? fa = some o → o.data = .func (docDef d.name d.params d.body d.scope pm cd doc) → s₁.heap.CodeRec cd d.name → mg d.name = some (.ref fa) →
   s₁.heap.get? a = some { cls := .type "list", data := .seq vs.toArray } → IntsAre vs ns → ns.length ≤ n → s₁.gens = #[] →
   codeAny (model l.prog w) callerA (.call (.ref fa) ⟨[.ref a], []⟩) (fun r s' => r = .ok (.ret (.bool true)) ∧ OldK s₁.heap s'.heap ∧ s'.os = s₁.os ∧ AllBare s'.gens) s₁) :
  WalkO q loose XP YP l.row.toRowW d [] (fun f vs => PySem.call f vs) := by
 intro w s₀ s₁ mg mb G Y fa o pm cd doc dV kV ho hd hcd hD hmg hg args vals as hpre hlay hrd hwl hlo
 obtain rfl : dV = .none := Dflts.none hD hdf
 obtain rfl : kV = .none := Dflts.noKw hD
 obtain ⟨a, vs, ns, rfl, rfl, hobj, hints, hlen⟩ := HK hn hpre hwl
 refine enter_call (codeAny_mono (call w s₀ s₁ mg mb fa o pm cd doc a vs ns G Y ho (fd_plain hd) hcd hmg hobj hints hlen hg) fun r s' hq => ?_)
 obtain ⟨rfl, h2, h3, h4⟩ := hq
 exact ⟨.inl ⟨.bool true, .bool true, [], rfl, fun _ => rfl, .bool true, Ey l _, fun _ => ⟨List.Pairwise.nil, fun _ hm => (nomatch hm)⟩⟩, h2, h3, h4⟩
section
variable {prog : Program} {w : World} {A : Around} {E : Value → Shared → Prop} {s : Shared} {K : Frag}
noncomputable def Zes (h : Heap) : Heap := { h with objs := #[] }
noncomputable def ledger (h : Heap) (L d : Addr) : List (Addr × Obj) := (List.range h.objs.size).filterMap fun a => if a = L ∨ a = d then none else (h.get? a).map fun o => (a, o)
end
end Att
namespace L2
open PySem PySem.Spec PyProof.Rows
theorem Kb : ∀ {vs : List Value} {ns : List Int}, IntsAre vs ns → Vals (ns.map V.int) vs
 | _, _, .nil => .nil
 | _, _, .cons n t h => .cons ⟨t, rfl⟩ (Kb h)
noncomputable def ZcU (H : Hp) : Prop := ∀ b, H b = none ∨ ∃ o xs, H b = some (.frz o (.lst xs))
theorem LQ {P : Program} {w : World} {K : PySem.W.Frag} {mg mb : Str → Option Value} {CX : CXT} {k : Nat} {fa a : Addr} {fd : FuncData} {x : Str} {sp : Sp} {s₁ : Shared} {vs : List Value} {ns : List Int}
  (KX : K.In s₁.heap) (hns : s₁.heap.Ns mainGlobals mg) (hb : s₁.heap.Ns builtinsNs mb) (hbb : ∀ x : Str, x ≠ "__name__" → mb x = bootBuiltins x) (hlim : s₁.heap.NoLimit) (hg : s₁.gens = #[])
  (ha : s₁.heap.get? a = some { cls := .type "list", data := .seq vs.toArray }) (hi : IntsAre vs ns) (hl : ns.length ≤ sizeLine) (hr : Y8 k callerA)
  (F : ∀ base : Heap, K.In base → base.Ns mainGlobals mg → ZE P w K mg base CX k fa fd [x] sp) (hbind : ∀ (s : Shared) (u : Value), BindsTo s fd ⟨[u], []⟩ [(x, u)])
  (hsp : ∀ H : Hp, ZcU H → SqL K H a (ns.map V.int) → sp [.ref a] H (fun v _ => v = .bl true) fun _ _ _ => False)
  (hCX : ∀ H e s', CX [] H s₁ (fun _ _ _ => False) e s' → False) :
  codeAny (model P w) callerA (.call (.ref fa) ⟨[.ref a], []⟩) (fun r s' => r = .ok (.ret (.bool true)) ∧ OldK s₁.heap s'.heap ∧ s'.os = s₁.os ∧ AllBare s'.gens) s₁ := by
 have rv := Kb hi
 have lenV := hi.length
 have core : ∀ H : Hp, ZcU H → SqL K H a (ns.map V.int) → HOk P w H s₁.heap → (∀ b, H b ≠ none → b = a) → (H a ≠ none → K.lookup a = none) →
   codeAny (model P w) callerA (.call (.ref fa) ⟨[.ref a], []⟩) (fun r s' => r = .ok (.ret (.bool true)) ∧ OldK s₁.heap s'.heap ∧ s'.os = s₁.os ∧ AllBare s'.gens) s₁ := by
  intro H hO hS hok hA hK
  have base_of : ∀ {b : Addr} {o : Obj}, s₁.heap.get? b = some o → H b = none → (LZ s₁.heap H).get? b = some o := fun e n => NR e n
  have noA : ∀ {b : Addr} {o : Obj} {es : Array DictEntry} {ep : Nat}, s₁.heap.get? b = some o → o.data = .dict es ep → H b = none := fun {b o es ep} e d => by
   cases q : H b with
   | none => rfl
   | some u =>
    have e' : b = a := hA b (by rw [q]; simp)
    subst e'
    rw [ha] at e; cases e
    have d' : Data.seq vs.toArray _ = Data.dict es ep := d
    cases d'
  have nsK : ∀ {b : Addr} {m : Str → Option Value}, s₁.heap.Ns b m → (LZ s₁.heap H).Ns b m := fun {b m} ⟨o, es, ep, e, d, r⟩ => ⟨o, es, ep, base_of e (noA e d), d, r⟩
  have hKb : K.In (LZ s₁.heap H) := fun b o e => base_of (KX b o e) (by
   cases q : H b with
   | none => rfl
   | some u =>
    have e' : b = a := hA b (by rw [q]; simp)
    subst e'
    rw [hK (by rw [q]; simp)] at e; cases e)
  have hM : Mod K mg (LZ s₁.heap H) := ⟨hKb, nsK hns, ⟨mb, nsK hb, hbb⟩, let ⟨mc, h1, h2⟩ := hlim; ⟨mc, nsK h1, h2⟩⟩
  have e0 : ZcD P w K mg (LZ s₁.heap H) callerA [] s₁ H := ⟨rfl, hM, fun b o e => SD e, Nat.le_of_eq (FE _ _), trivial, fun b hb => absurd (show b ∈ ([] : List Addr) from hb) (by simp), hok, .of_eq hg⟩
  refine codeAny_mono ((F _ hKb (nsK hns)).run callerA [] s₁ H ⟨[.ref a], []⟩ [.ref a] [.ref a] _ _ hr e0 (hbind s₁ (.ref a)) (.cons rfl .nil) (hsp H hO hS)) fun r s' h => ?_
  cases r with
  | error e => exact (hCX H e s' h).elim
  | ok fl =>
   cases fl with
   | next => exact False.elim h
   | brk => exact False.elim h
   | cont => exact False.elim h
   | ret u =>
    obtain ⟨v, H', os, bare, un, hok', r', q⟩ := h
    have q' : v = .bl true := q
    subst q'
    obtain rfl : u = Value.bool true := r'
    refine ⟨rfl, OldK.of_keep fun b o e => ?_, os, bare⟩
    cases q : H b with
    | none => exact un.keep b o e q (by intro z; exact absurd (show b ∈ ([] : List Addr) from z) (by simp)) (by simp)
    | some u =>
     rcases hO b with z | ⟨ob, xs, z⟩
     ·rw [q] at z; cases z
     ·have z2 := un.frzs b ob _ z
      obtain ⟨e1, _⟩ := hok b _ z
      obtain ⟨e2, _⟩ := hok' b _ z2
      rw [e] at e1; cases e1
      exact e2
 cases hk : K.lookup a with
 | some o =>
  have e := KX a o hk
  rw [ha] at e
  cases e
  refine core (fun _ => none) (fun _ => .inl rfl) (.inr ⟨_, vs.toArray, _, hk, rfl, rfl, rfl, by rw [List.size_toArray, lenV]; exact hl, by simpa using rv⟩) (fun b u z => by have z' : (none : Option HO) = some u := z; cases z') (fun b z => absurd rfl z) fun z => absurd rfl z
 | none =>
  refine core (fun b => if b = a then some (.frz { cls := .type "list", data := .seq vs.toArray } (.lst (ns.map V.int))) else none) (fun b => ?_) (.inl (.inr ⟨{ cls := .type "list", data := .seq vs.toArray }, if_pos rfl⟩)) (fun b u z => ?_) (fun b z => ?_) fun _ => hk
  ·by_cases hb : b = a
   ·exact .inr ⟨_, _, if_pos hb⟩
   ·exact .inl (if_neg hb)
  ·by_cases hb : b = a
   ·have z' := (if_pos hb).symm.trans z
    cases z'
    subst hb
    exact ⟨ha, by rw [List.length_map]; exact hl, vs, _, rv, ha⟩
   ·have z' := (if_neg hb).symm.trans z
    cases z'
  ·by_cases hb : b = a
   ·exact hb
   ·exact absurd (if_neg hb) z
end L2
namespace L2
open PySem PySem.Spec PyProof.Rows
noncomputable abbrev KOf {K : PySem.W.Frag} {h : Heap} (_ : K.In h) : PySem.W.Frag := K
theorem Ta {l : PySem.W.OpenLaw} {n k : Nat} {q : Program} {loose : List Str} {XP : (Str → Option Value) → Heap → Prop} {YP : World → Heap → Prop} {d : DefRec} {K : Params → PySem.W.Frag} {CX : World → CXT} {sp : World → Sp} {x : Str}
  (hn : l.most = some n) (hn2 : n ≤ sizeLine) (hdf : d.params.defaults = []) (hr : Y8 k callerA)
  (hY : ∀ (w : World) (h : Heap), YP w h → (K w.params).In h)
  (F : ∀ (w : World) (mg : Str → Option Value) (fa : Addr) (h : Heap), (K w.params).In h → h.Ns mainGlobals mg → mg d.name = some (.ref fa) →
   ∃ fd : FuncData, (∀ (s : Shared) (u : Value), BindsTo s fd ⟨[u], []⟩ [(x, u)]) ∧
    ∀ base : Heap, (K w.params).In base → base.Ns mainGlobals mg → ZE l.prog w (K w.params) mg base (CX w) k fa fd [x] (sp w))
  (hsp : ∀ (w : World) (H : Hp) (a : Addr) (ns : List Int), ns.length ≤ n → ZcU H → SqL (K w.params) H a (ns.map V.int) → sp w [.ref a] H (fun v _ => v = .bl true) fun _ _ _ => False)
  (hCX : ∀ (w : World) (H : Hp) (s : Shared) (e : Value) (s' : Shared), CX w [] H s (fun _ _ _ => False) e s' → False) :
  PySem.W.WalkO q loose XP YP l.row.toRowW d [] (fun f vs => PySem.call f vs) := by
 refine Att.BU hn hdf fun w s₀ s₁ mg mb fa o pm cd doc a vs ns G Y ho hd hcd hmg hobj hints hlen hg => ?_
 have KX := hY w _ Y
 obtain ⟨fd, hb, hF⟩ := F w mg fa _ KX G.T.g hmg
 exact LQ KX G.T.g G.T.b G.T.builtins G.T.nolimit hg hobj hints (Nat.le_trans hlen hn2) hr hF hb (fun H hO hS => hsp w H a ns hlen hO hS) fun H e s' => hCX w H s₁ e s'
end L2
namespace L2
open PySem PySem.Spec PyProof.Rows
noncomputable def inClass (s : Stmt) (j : Nat) : Stmt := match s with
 | .ClassDef _ _ _ body _ _ _ _ _ _ _ => body.getD j (.Pass ⟨0, 0, 0, 0⟩)
 | _ => .Pass ⟨0, 0, 0, 0⟩
noncomputable def Zu (s : Stmt) : Arguments := match s with
 | .FunctionDef _ a _ _ _ _ _ _ _ _ => a
 | _ => { posonlyargs := [], args := [], vararg := none, kwonlyargs := [], kw_defaults := [], kwarg := none, defaults := [] }
noncomputable def Zq (s : Stmt) : List Stmt := match s with
 | .FunctionDef _ _ b _ _ _ _ _ _ _ => b
 | _ => []
noncomputable def Zf (s : Stmt) : Scope := match s with
 | .FunctionDef _ _ _ _ _ _ sc _ _ _ => sc
 | _ => { kind := .function, names := [], isGenerator := false, isCoroutine := false }
noncomputable abbrev CX0 : CXT := fun _ _ _ _ _ _ => False
noncomputable abbrev E0 : XK := fun _ _ _ => False
theorem Zs {X : Cx} : Passes CX0 X E0 := fun _ _ _ _ _ _ _ h => h.elim
structure Fun (K : PySem.W.Frag) (x qual : Str) (st : Stmt) (f : Addr) (fd : FuncData) : Prop where
 ex : ∃ (oc : Value) (od : Option Addr) (kV doc pm : Value) (an : Option Addr) (cdv ct : Value) (osl : Array (Option Value)),
  fd = PySem.W.fnOf x qual (Zu st) (Zq st) (Zf st) .none kV doc pm an cdv ct ∧ K.lookup f = some ⟨oc, od, .func fd, osl⟩ ∧ PySem.W.codeIn K cdv qual = true
 kp : PySem.W.keepIn K (.ref f) = true
section
variable {P : Program} {w : World} {K : PySem.W.Frag} {mg : Str → Option Value} {base : Heap}
theorem Fun.ok {x qual : Str} {st : Stmt} {f : Addr} {fd : FuncData} {N ps : List Str} {k : Nat} {sp : Sp} (F : Fun K x qual st f fd) (S : Zt N ps (Zf st)) (len : ∀ vs H Q E, sp vs H Q E → vs.length = ps.length)
  (hbody : ∀ (cdv : Value) (A : Around) (outer : List Env) (s : Shared) (H : Hp) (vs : List V) (Q : VK) (E : XK), Y8 k (A.deeper (envOfC qual (Zf st) s.heap.objs.size f cdv)) → sp vs H Q E →
   ∃ t, PSs (PB CX0 P w K mg base N qual (Zf st) f cdv A outer s H E).nox (Zq st) t ∧ t { nx := fun _ H' => Q .non H', rt := Q } (start N vs) H) : ZE P w K mg base CX0 (k + 1) f fd ps sp := by
 obtain ⟨oc, od, kV, doc, pm, an, cdv, ct, osl, rfl, lk, hcd⟩ := F.ex
 refine Zdp lk hcd S len fun A outer s H vs Q E hr hsp => ?_
 obtain ⟨t, h, q⟩ := hbody cdv A outer s H vs Q E hr hsp
 exact ⟨t, h.nox, q⟩
theorem Fun.binds {x qual : Str} {st : Stmt} {f : Addr} {fd : FuncData} {ps : List Str} (F : Fun K x qual st f fd)
  (h : ∀ (kV doc pm : Value) (an : Option Addr) (cdv ct : Value) (us : List Value), us.length = ps.length → bindArgs (PySem.W.fnOf x qual (Zu st) (Zq st) (Zf st) .none kV doc pm an cdv ct) ⟨us, []⟩ = pure (ps.zip us)) : Binds K fd ps [] := by
 obtain ⟨oc, od, kV, doc, pm, an, cdv, ct, osl, rfl, lk, hcd⟩ := F.ex
 exact .all (h kV doc pm an cdv ct)
theorem ZA {x qual : Str} {st : Stmt} {f : Addr} {oc : Value} {od an : Option Addr} {osl : Array (Option Value)} {kV doc pm cdv ct : Value} (l : K.lookup f = some ⟨oc, od, .func (PySem.W.fnOf x qual (Zu st) (Zq st) (Zf st) .none kV doc pm an cdv ct), osl⟩)
  (c : PySem.W.codeIn K cdv qual = true) (k : PySem.W.keepIn K (.ref f) = true) : Fun K x qual st f (PySem.W.fnOf x qual (Zu st) (Zq st) (Zf st) .none kV doc pm an cdv ct) := ⟨⟨oc, od, kV, doc, pm, an, cdv, ct, osl, rfl, l, c⟩, k⟩
end
section
variable {X : Cx}
end
noncomputable def Ts (H H' : Hp) : Prop := ∀ b o, H b = some o → H' b = some o
theorem Ts.refl (H : Hp) : Ts H H := fun _ _ h => h
theorem Ts.trans {H H1 H2 : Hp} (a : Ts H H1) (b : Ts H1 H2) : Ts H H2 := fun c o h => b c o (a c o h)
end L2
namespace DL
open PySem PySem.Spec PyProof.Rows L2
inductive OO where
 | lst (ds : List PyData)
  | dct (ks : List (List Key))
  | dtv (kvs : List (List Key × PyData))
  | dkv (kvs : List (Key × PyData))
  | ext (φ : Heap → Prop)
noncomputable abbrev Mp := Addr → Option OO
noncomputable def Z3 (M : Mp) (a : Addr) (o : OO) : Mp := fun b => if b = a then some o else M b
noncomputable def K6 (M : Mp) (a : Addr) : Mp := fun b => if b = a then none else M b
theorem ZU {M : Mp} {a : Addr} {o : OO} : Z3 M a o a = some o := by unfold Z3; rw [if_pos rfl]
theorem Qm {M : Mp} {a b : Addr} {o : OO} (h : b ≠ a) : Z3 M a o b = M b := by unfold Z3; rw [if_neg h]
theorem Fm {M : Mp} {a : Addr} {o u : OO} : Z3 (Z3 M a o) a u = Z3 M a u := by
 funext b; unfold Z3; split <;> rfl
theorem Gg {M : Mp} {a : Addr} : K6 M a a = none := by unfold K6; rw [if_pos rfl]
theorem FZ {M : Mp} {a b : Addr} (h : b ≠ a) : K6 M a b = M b := by unfold K6; rw [if_neg h]
noncomputable def kD : Key → PyData
 | .inl i => .int i
 | .inr x => .str x
noncomputable def KTu (K : PySem.W.Frag) (a : Addr) (xs : List V) : Prop :=
 ∃ (o : Obj) (its : Array Value) (n : Nat), K.lookup a = some o ∧ o.cls = .type "tuple" ∧ o.data = .seq its n ∧ its.size ≤ sizeLine ∧ Vals xs its.toList
noncomputable def KLs (K : PySem.W.Frag) (a : Addr) (xs : List V) : Prop :=
 ∃ (o : Obj) (its : Array Value) (n : Nat), K.lookup a = some o ∧ o.cls = .type "list" ∧ o.dict = none ∧ o.data = .seq its n ∧ its.size ≤ sizeLine ∧ Vals xs its.toList
noncomputable def TupAt (K : PySem.W.Frag) (M : Mp) (H : Hp) (a : Addr) (xs : List V) : Prop := (M a = none ∧ Rd H a (.tup xs)) ∨ KTu K a xs
noncomputable def LstAt (K : PySem.W.Frag) (M : Mp) (H : Hp) (a : Addr) (xs : List V) : Prop := (M a = none ∧ Rd H a (.lst xs)) ∨ KLs K a xs
theorem TupAt.sq {K : PySem.W.Frag} {M : Mp} {H : Hp} {a : Addr} {xs : List V} (h : TupAt K M H a xs) : SqT K H a xs := by
 rcases h with ⟨_, h⟩ | h
 ·exact .inl h
 ·exact .inr h
theorem LstAt.sq {K : PySem.W.Frag} {M : Mp} {H : Hp} {a : Addr} {xs : List V} (h : LstAt K M H a xs) : SqL K H a xs := by
 rcases h with ⟨_, h⟩ | h
 ·exact .inl h
 ·exact .inr h
mutual
inductive Dt (K : PySem.W.Frag) (M : Mp) (H : Hp) : V → PyData → Prop
 | non : Dt K M H .non .none
 | bl (b : Bool) : Dt K M H (.bl b) (.bool b)
 | int (i : Int) : Dt K M H (.int i) (.int i)
 | str (x : Str) : Dt K M H (.str x) (.str x)
 | tup {a : Addr} {xs : List V} {ds : List PyData} : TupAt K M H a xs → Dts K M H xs ds → Dt K M H (.ref a) (.tuple ds)
 | lst {a : Addr} {xs : List V} {ds : List PyData} : LstAt K M H a xs → Dts K M H xs ds → Dt K M H (.ref a) (.list ds)
 | dK {a : Addr} {kvs : List (Key × V)} {ds : List PyData} : M a = none → H a = some (.dK kvs) → Dts K M H (kvs.map (·.2)) ds → Dt K M H (.ref a) (.dict ((kvs.map fun kv => kD kv.1).zip ds))
 | dT {a : Addr} {kvs : List (List Key × V)} {ds : List PyData} : M a = none → H a = some (.dT kvs) → Dts K M H (kvs.map (·.2)) ds → Dt K M H (.ref a) (.dict ((kvs.map fun kv => PyData.tuple (kv.1.map kD)).zip ds))
 | dX {a b : Addr} {φ : Heap → Prop} {v : V} {dk d : PyData} : M a = none → H a = some (.ext φ) → (a == sysModules) = false →
   (∀ h, φ h → ∃ o es n u, h.get? a = some o ∧ o.cls = .type "dict" ∧ o.data = .dict es n ∧ es.toList.map (·.key) = [.ref b] ∧ es.toList.map (·.val) = [u] ∧ RelV v u) → Dt K M H (.ref b) dk → Dt K M H v d → Dt K M H (.ref a) (.dict [(dk, d)])
inductive Dts (K : PySem.W.Frag) (M : Mp) (H : Hp) : List V → List PyData → Prop
 | nil : Dts K M H [] []
 | cons {x : V} {xs : List V} {d : PyData} {ds : List PyData} : Dt K M H x d → Dts K M H xs ds → Dts K M H (x :: xs) (d :: ds)
end
structure Step (M : Mp) (H : Hp) (M' : Mp) (H' : Hp) : Prop where
 keep : ∀ b o, M b = none → H b = some o → H' b = some o
 free : ∀ b o, M b = none → H b = some o → M' b = none
theorem Step.refl {M : Mp} {H : Hp} : Step M H M H := ⟨fun _ _ _ h => h, fun _ _ h _ => h⟩
theorem Step.trans {M M1 M2 : Mp} {H H1 H2 : Hp} (a : Step M H M1 H1) (b : Step M1 H1 M2 H2) : Step M H M2 H2 :=
 ⟨fun c o h1 h2 => b.keep c o (a.free c o h1 h2) (a.keep c o h1 h2), fun c o h1 h2 => b.free c o (a.free c o h1 h2) (a.keep c o h1 h2)⟩
section
variable {K : PySem.W.Frag} {M M' : Mp} {H H' : Hp}
theorem LI {a : Addr} {u : HO} (st : Step M H M' H') (hm : M a = none) (h : Rd H a u) : M' a = none ∧ Rd H' a u := by
 rcases h with h | ⟨o, h⟩
 ·exact ⟨st.free _ _ hm h, .inl (st.keep _ _ hm h)⟩
 ·exact ⟨st.free _ _ hm h, .inr ⟨o, st.keep _ _ hm h⟩⟩
theorem TupAt.step {a : Addr} {xs : List V} (h : TupAt K M H a xs) (st : Step M H M' H') : TupAt K M' H' a xs := by
 rcases h with ⟨h1, h2⟩ | h
 ·exact .inl (LI st h1 h2)
 ·exact .inr h
theorem LstAt.step {a : Addr} {xs : List V} (h : LstAt K M H a xs) (st : Step M H M' H') : LstAt K M' H' a xs := by
 rcases h with ⟨h1, h2⟩ | h
 ·exact .inl (LI st h1 h2)
 ·exact .inr h
mutual
theorem Dt.step (st : Step M H M' H') : ∀ {v : V} {d : PyData}, Dt K M H v d → Dt K M' H' v d
 | _, _, .non => .non
 | _, _, .bl b => .bl b
 | _, _, .int i => .int i
 | _, _, .str x => .str x
 | _, _, .tup h1 h2 => .tup (h1.step st) (Dts.step st h2)
 | _, _, .lst h1 h2 => .lst (h1.step st) (Dts.step st h2)
 | _, _, .dK h0 h1 h2 => .dK (st.free _ _ h0 h1) (st.keep _ _ h0 h1) (Dts.step st h2)
 | _, _, .dT h0 h1 h2 => .dT (st.free _ _ h0 h1) (st.keep _ _ h0 h1) (Dts.step st h2)
 | _, _, .dX h0 h1 h2 h3 h4 h5 => .dX (st.free _ _ h0 h1) (st.keep _ _ h0 h1) h2 h3 (Dt.step st h4) (Dt.step st h5)
theorem Dts.step (st : Step M H M' H') : ∀ {vs : List V} {ds : List PyData}, Dts K M H vs ds → Dts K M' H' vs ds
 | _, _, .nil => .nil
 | _, _, .cons h1 h2 => .cons (Dt.step st h1) (Dts.step st h2)
end
theorem Dts.length : ∀ {vs : List V} {ds : List PyData}, Dts K M H vs ds → vs.length = ds.length
 | _, _, .nil => rfl
 | _, _, .cons _ h => by rw [List.length_cons, List.length_cons, Dts.length h]
theorem Dts.get : ∀ {vs : List V} {ds : List PyData} {i : Nat} {d : PyData}, Dts K M H vs ds → ds[i]? = some d → ∃ v, vs[i]? = some v ∧ Dt K M H v d
 | _, _, _, _, .nil, e => by simp at e
 | _, _, 0, _, .cons h _, e => by simp at e; subst e; exact ⟨_, rfl, h⟩
 | _, _, i + 1, d, .cons _ h, e => by
  obtain ⟨v, h1, h2⟩ := Dts.get (i := i) (d := d) h (by simpa using e)
  exact ⟨v, by simpa using h1, h2⟩
theorem Dts.ZbP : ∀ {vs : List V} {ds : List PyData} {i : Nat} {v : V}, Dts K M H vs ds → vs[i]? = some v → ∃ d, ds[i]? = some d ∧ Dt K M H v d
 | _, _, _, _, .nil, e => by simp at e
 | _, _, 0, _, .cons h _, e => by simp at e; subst e; exact ⟨_, rfl, h⟩
 | _, _, i + 1, v, .cons _ h, e => by
  obtain ⟨d, h1, h2⟩ := Dts.ZbP (i := i) (v := v) h (by simpa using e)
  exact ⟨d, by simpa using h1, h2⟩
theorem Dts.append : ∀ {vs ws : List V} {ds es : List PyData}, Dts K M H vs ds → Dts K M H ws es → Dts K M H (vs ++ ws) (ds ++ es)
 | _, _, _, _, .nil, h => h
 | _, _, _, _, .cons h1 h2, h => .cons h1 (Dts.append h2 h)
theorem Dts.take : ∀ {vs : List V} {ds : List PyData} (n : Nat), Dts K M H vs ds → Dts K M H (vs.take n) (ds.take n)
 | _, _, 0, _ => .nil
 | _, _, _ + 1, .nil => .nil
 | _, _, n + 1, .cons h1 h2 => .cons h1 (Dts.take n h2)
theorem Dts.drop : ∀ {vs : List V} {ds : List PyData} (n : Nat), Dts K M H vs ds → Dts K M H (vs.drop n) (ds.drop n)
 | _, _, 0, h => h
 | _, _, _ + 1, .nil => .nil
 | _, _, n + 1, .cons _ h2 => Dts.drop n h2
theorem Dts.set {v : V} {d : PyData} (h : Dt K M H v d) : ∀ {vs : List V} {ds : List PyData} (i : Nat), Dts K M H vs ds → Dts K M H (vs.set i v) (ds.set i d)
 | _, _, _, .nil => .nil
 | _, _, 0, .cons _ t => .cons h t
 | _, _, i + 1, .cons q t => .cons q (Dts.set h i t)
theorem Dts.ints : ∀ (ns : List Int), Dts K M H (ns.map V.int) (ns.map PyData.int)
 | [] => .nil
 | n :: ns => .cons (.int n) (Dts.ints ns)
theorem Xj : ∀ {vs : List V} {ns : List Int}, Dts K M H vs (ns.map PyData.int) → vs = ns.map V.int
 | vs, [], h => by
  rw [List.map_nil] at h
  cases h
  rfl
 | vs, n :: ns, h => by
  rw [List.map_cons] at h
  cases h with
  | cons h1 h2 =>
   cases h1
   rw [Xj h2, List.map_cons]
noncomputable def OOk (K : PySem.W.Frag) (M : Mp) (H : Hp) (a : Addr) : OO → Prop
 | .lst ds => ∃ vs, H a = some (.lst vs) ∧ Dts K M H vs ds
 | .dct ks => ∃ kvs, H a = some (.dT kvs) ∧ kvs.map (·.1) = ks
 | .dtv ps => ∃ kvs, H a = some (.dT kvs) ∧ kvs.map (·.1) = ps.map (·.1) ∧ Dts K M H (kvs.map (·.2)) (ps.map (·.2))
 | .dkv ps => ∃ kvs, H a = some (.dK kvs) ∧ kvs.map (·.1) = ps.map (·.1) ∧ Dts K M H (kvs.map (·.2)) (ps.map (·.2))
 | .ext φ => H a = some (.ext φ)
theorem OOk.step {a : Addr} {o : OO} (h : OOk K M H a o) (st : Step M H M' H') (e : ∀ u, H a = some u → H' a = some u) : OOk K M' H' a o := by
 cases o with
 | lst ds => obtain ⟨vs, e1, e2⟩ := h; exact ⟨vs, e _ e1, e2.step st⟩
 | dct ks => obtain ⟨vs, e1, e2⟩ := h; exact ⟨vs, e _ e1, e2⟩
 | dtv ps => obtain ⟨vs, e1, e2, e3⟩ := h; exact ⟨vs, e _ e1, e2, e3.step st⟩
 | dkv ps => obtain ⟨vs, e1, e2, e3⟩ := h; exact ⟨vs, e _ e1, e2, e3.step st⟩
 | ext φ => exact e _ h
theorem OOk.some {a : Addr} {o : OO} (h : OOk K M H a o) : ∃ u, H a = some u := by
 cases o with
 | lst ds => obtain ⟨vs, e1, _⟩ := h; exact ⟨_, e1⟩
 | dct ks => obtain ⟨vs, e1, _⟩ := h; exact ⟨_, e1⟩
 | dtv ps => obtain ⟨vs, e1, _⟩ := h; exact ⟨_, e1⟩
 | dkv ps => obtain ⟨vs, e1, _⟩ := h; exact ⟨_, e1⟩
 | ext φ => exact ⟨_, h⟩
structure Z4 (K : PySem.W.Frag) (M : Mp) (H : Hp) : Prop where
 ok : ∀ a o, M a = some o → OOk K M H a o
theorem Z4.ls (r : Z4 K M H) (a : Addr) (ds : List PyData) (h : M a = some (.lst ds)) : ∃ vs, H a = some (.lst vs) ∧ Dts K M H vs ds := r.ok a _ h
theorem Z4.dc (r : Z4 K M H) (a : Addr) (ks : List (List Key)) (h : M a = some (.dct ks)) : ∃ kvs, H a = some (.dT kvs) ∧ kvs.map (·.1) = ks := r.ok a _ h
theorem Z4.tracked (r : Z4 K M H) {a : Addr} (h : H a = none) : M a = none := by
 cases q : M a with
 | none => rfl
 | some o =>
  obtain ⟨u, e⟩ := (r.ok a o q).some
  rw [h] at e
  cases e
theorem Step.new {p : Addr} {o : HO} (h : H p = none) : Step M H M (upd H p o) :=
 ⟨fun b u _ e => by rw [ZW (ZJ e h)]; exact e, fun _ _ h _ => h⟩
theorem Z4.step_same (r : Z4 K M H) (st : Step M H M H') (hk : ∀ a u, M a ≠ none → H a = some u → H' a = some u) : Z4 K M H' :=
 ⟨fun a o e => (r.ok a o e).step st fun u hu => hk a u (by rw [e]; simp) hu⟩
theorem Z4.new (r : Z4 K M H) {p : Addr} {o : HO} (h : H p = none) : Z4 K M (upd H p o) :=
 r.step_same (Step.new h) fun a vs _ e => by rw [ZW (ZJ e h)]; exact e
theorem Step.Yg {p : Addr} {o : HO} {q : OO} (h : H p = none) : Step M H (Z3 M p q) (upd H p o) :=
 ⟨fun b u _ e => by rw [ZW (ZJ e h)]; exact e, fun b u hm e => by rw [Qm (ZJ e h)]; exact hm⟩
theorem Step.Gs {p : Addr} {o : HO} {q q' : OO} (h : M p = some q) : Step M H (Z3 M p q') (upd H p o) := by
 have ne : ∀ b, M b = none → b ≠ p := fun b hb e => by rw [e, h] at hb; cases hb
 exact ⟨fun b u hb e => by rw [ZW (ne b hb)]; exact e, fun b u hb e => by rw [Qm (ne b hb)]; exact hb⟩
theorem Z4.Ph (r : Z4 K M H) {p : Addr} {u : HO} {o : OO} (st : Step M H (Z3 M p o) (upd H p u)) (h : OOk K (Z3 M p o) (upd H p u) p o) : Z4 K (Z3 M p o) (upd H p u) := by
 refine ⟨fun a q e => ?_⟩
 by_cases ha : a = p
 ·subst ha
  rw [ZU] at e
  cases e
  exact h
 ·rw [Qm ha] at e
  exact (r.ok a q e).step st fun v hv => by rw [ZW ha]; exact hv
theorem Z4.XF (r : Z4 K M H) {p : Addr} {vs : List V} {ds : List PyData} (st : Step M H (Z3 M p (.lst ds)) (upd H p (.lst vs))) (hv : Dts K M H vs ds) :
  Z4 K (Z3 M p (.lst ds)) (upd H p (.lst vs)) := r.Ph st ⟨vs, Jx, hv.step st⟩
theorem Z4.O5 (r : Z4 K M H) {p : Addr} {kvs : List (List Key × V)} {ks : List (List Key)} (st : Step M H (Z3 M p (.dct ks)) (upd H p (.dT kvs))) (hv : kvs.map (·.1) = ks) :
  Z4 K (Z3 M p (.dct ks)) (upd H p (.dT kvs)) := r.Ph st ⟨kvs, Jx, hv⟩
theorem Step.frz {p : Addr} : Step M H (K6 M p) H :=
 ⟨fun _ _ _ h => h, fun b o hb _ => by unfold K6; split <;> first | rfl | exact hb⟩
theorem Z4.frz (r : Z4 K M H) {p : Addr} : Z4 K (K6 M p) H := by
 refine ⟨fun a o e => ?_⟩
 have hne : a ≠ p := fun z => by rw [z, Gg] at e; cases e
 rw [FZ hne] at e
 exact (r.ok a o e).step Step.frz fun _ h => h
inductive DV where
 | dat (d : PyData)
 | own (a : Addr)
 | ty (n : String)
noncomputable def QT (K : PySem.W.Frag) (M : Mp) (H : Hp) (v : V) : DV → Prop
 | .dat d => Dt K M H v d
 | .own a => v = .ref a
 | .ty n => v = .ty n
theorem QT.step {v : V} {x : DV} (h : QT K M H v x) (st : Step M H M' H') : QT K M' H' v x := by
 cases x with
 | dat d => exact Dt.step st h
 | own a => exact h
 | ty n => exact h
noncomputable abbrev YR (K : PySem.W.Frag) (M : Mp) (H : Hp) : List V → List DV → Prop := Paired (QT K M H)
theorem YR.step {vs : List V} {xs : List DV} (h : YR K M H vs xs) (st : Step M H M' H') : YR K M' H' vs xs := Paired.ZcV h fun _ _ q => QT.step q st
theorem YR.ZcO : ∀ {vs : List V} {ds : List PyData}, YR K M H vs (ds.map DV.dat) → Dts K M H vs ds
 | vs, [], h => by rw [List.map_nil] at h; cases h; exact .nil
 | vs, d :: ds, h => by
  rw [List.map_cons] at h
  cases h with
  | cons h1 h2 => exact .cons h1 (YR.ZcO h2)
noncomputable def onV (o : Option (Option DV)) (P : DV → Prop) : Prop := match o with | some (some x) => P x | _ => False
theorem Zai {o : Option (Option DV)} {P : DV → Prop} (h : onV o P) : ∃ x, o = some (some x) ∧ P x := by
 unfold onV at h
 split at h
 ·exact ⟨_, rfl, h⟩
 ·exact h.elim
noncomputable def onI (x : DV) (P : Int → Prop) : Prop := match x with | .dat (.int i) => P i | _ => False
theorem ZO {x : DV} {P : Int → Prop} (h : onI x P) : ∃ i, x = .dat (.int i) ∧ P i := by
 unfold onI at h
 split at h
 ·exact ⟨_, rfl, h⟩
 ·exact h.elim
noncomputable def onB (x : DV) (P : Bool → Prop) : Prop := match x with | .dat (.bool i) => P i | _ => False
theorem Cd {x : DV} {P : Bool → Prop} (h : onB x P) : ∃ i, x = .dat (.bool i) ∧ P i := by
 unfold onB at h
 split at h
 ·exact ⟨_, rfl, h⟩
 ·exact h.elim
noncomputable def onS (x : DV) (P : Str → Prop) : Prop := match x with | .dat (.str i) => P i | _ => False
noncomputable def onT (x : DV) (P : List PyData → Prop) : Prop := match x with | .dat (.tuple i) => P i | _ => False
theorem XE {x : DV} {P : List PyData → Prop} (h : onT x P) : ∃ i, x = .dat (.tuple i) ∧ P i := by
 unfold onT at h
 split at h
 ·exact ⟨_, rfl, h⟩
 ·exact h.elim
noncomputable def onL (x : DV) (P : List PyData → Prop) : Prop := match x with | .dat (.list i) => P i | _ => False
theorem EI {x : DV} {P : List PyData → Prop} (h : onL x P) : ∃ i, x = .dat (.list i) ∧ P i := by
 unfold onL at h
 split at h
 ·exact ⟨_, rfl, h⟩
 ·exact h.elim
noncomputable def onD (x : DV) (P : PyData → Prop) : Prop := match x with | .dat i => P i | _ => False
theorem Qo {x : DV} {P : PyData → Prop} (h : onD x P) : ∃ i, x = .dat i ∧ P i := by
 unfold onD at h
 split at h
 ·exact ⟨_, rfl, h⟩
 ·exact h.elim
noncomputable def onO (x : DV) (P : Addr → Prop) : Prop := match x with | .own i => P i | _ => False
theorem Jm {x : DV} {P : Addr → Prop} (h : onO x P) : ∃ i, x = .own i ∧ P i := by
 unfold onO at h
 split at h
 ·exact ⟨_, rfl, h⟩
 ·exact h.elim
noncomputable def XT (o : Option OO) (P : List PyData → Prop) : Prop := match o with | some (.lst ds) => P ds | _ => False
theorem Vk {o : Option OO} {P : List PyData → Prop} (h : XT o P) : ∃ ds, o = some (.lst ds) ∧ P ds := by
 unfold XT at h
 split at h
 ·exact ⟨_, rfl, h⟩
 ·exact h.elim
noncomputable def Nv (o : Option OO) (P : List (List Key) → Prop) : Prop := match o with | some (.dct ks) => P ks | _ => False
theorem Hm {o : Option OO} {P : List (List Key) → Prop} (h : Nv o P) : ∃ ks, o = some (.dct ks) ∧ P ks := by
 unfold Nv at h
 split at h
 ·exact ⟨_, rfl, h⟩
 ·exact h.elim
noncomputable def onQ (x : DV) (M : Mp) (P : List PyData → Prop) : Prop := match x with | .dat (.tuple ds) => P ds | .dat (.list ds) => P ds | .own l => XT (M l) P | _ => False
theorem Gy {x : DV} {M : Mp} {P : List PyData → Prop} (h : onQ x M P) : ∃ ds, (x = .dat (.tuple ds) ∨ x = .dat (.list ds) ∨ ∃ l, x = .own l ∧ M l = some (.lst ds)) ∧ P ds := by
 unfold onQ at h
 split at h
 ·exact ⟨_, .inl rfl, h⟩
 ·exact ⟨_, .inr (.inl rfl), h⟩
 ·replace h := Vk h
  obtain ⟨ds, e, h⟩ := h
  exact ⟨ds, .inr (.inr ⟨_, rfl, e⟩), h⟩
 ·exact h.elim
noncomputable def onK (x : DV) (M : Mp) (P : List PyData → Prop) : Prop := match x with | .dat (.list ds) => P ds | .own l => XT (M l) P | _ => False
theorem Wn {x : DV} {M : Mp} {P : List PyData → Prop} (h : onK x M P) : ∃ ds, (x = .dat (.list ds) ∨ ∃ l, x = .own l ∧ M l = some (.lst ds)) ∧ P ds := by
 unfold onK at h
 split at h
 ·exact ⟨_, .inl rfl, h⟩
 ·replace h := Vk h
  obtain ⟨ds, e, h⟩ := h
  exact ⟨ds, .inr ⟨_, rfl, e⟩, h⟩
 ·exact h.elim
noncomputable def on1 (xs : List DV) (P : DV → Prop) : Prop := match xs with | [x] => P x | _ => False
theorem Qa {xs : List DV} {P : DV → Prop} (h : on1 xs P) : ∃ x, xs = [x] ∧ P x := by
 unfold on1 at h
 split at h
 ·exact ⟨_, rfl, h⟩
 ·exact h.elim
noncomputable def on2 (xs : List DV) (P : DV → DV → Prop) : Prop := match xs with | [x, y] => P x y | _ => False
theorem Zz {xs : List DV} {P : DV → DV → Prop} (h : on2 xs P) : ∃ x y, xs = [x, y] ∧ P x y := by
 unfold on2 at h
 split at h
 ·exact ⟨_, _, rfl, h⟩
 ·exact h.elim
noncomputable def on3 (xs : List DV) (P : DV → DV → DV → Prop) : Prop := match xs with | [x, y, z] => P x y z | _ => False
theorem ZS {xs : List DV} {P : DV → DV → DV → Prop} (h : on3 xs P) : ∃ x y z, xs = [x, y, z] ∧ P x y z := by
 unfold on3 at h
 split at h
 ·exact ⟨_, _, _, rfl, h⟩
 ·exact h.elim
noncomputable def on4 (xs : List DV) (P : DV → DV → DV → DV → Prop) : Prop := match xs with | [x0, x1, x2, x3] => P x0 x1 x2 x3 | _ => False
theorem Pr {xs : List DV} {P : DV → DV → DV → DV → Prop} (h : on4 xs P) : ∃ x0 x1 x2 x3, xs = [x0, x1, x2, x3] ∧ P x0 x1 x2 x3 := by
 unfold on4 at h
 split at h
 ·exact ⟨_, _, _, _, rfl, h⟩
 ·exact h.elim
noncomputable def on5 (xs : List DV) (P : DV → DV → DV → DV → DV → Prop) : Prop := match xs with | [x0, x1, x2, x3, x4] => P x0 x1 x2 x3 x4 | _ => False
theorem PU {xs : List DV} {P : DV → DV → DV → DV → DV → Prop} (h : on5 xs P) : ∃ x0 x1 x2 x3 x4, xs = [x0, x1, x2, x3, x4] ∧ P x0 x1 x2 x3 x4 := by
 unfold on5 at h
 split at h
 ·exact ⟨_, _, _, _, _, rfl, h⟩
 ·exact h.elim
noncomputable def on6 (xs : List DV) (P : DV → DV → DV → DV → DV → DV → Prop) : Prop := match xs with | [x0, x1, x2, x3, x4, x5] => P x0 x1 x2 x3 x4 x5 | _ => False
noncomputable def MU : List DV → Option (List PyData)
 | [] => some []
 | .dat d :: r => match MU r with | some ds => some (d :: ds) | none => none
 | _ :: _ => none
theorem CG : ∀ {xs : List DV} {ds : List PyData}, MU xs = some ds → xs = ds.map DV.dat
 | [], _, h => by cases h; rfl
 | .dat d :: r, ds, h => by
  rw [MU] at h
  split at h
  ·rename_i es e
   cases h
   rw [List.map_cons, ← CG e]
  ·cases h
 | .own _ :: _, _, h => by cases h
 | .ty _ :: _, _, h => by cases h
noncomputable def K9 (xs : List DV) (P : List PyData → Prop) : Prop := match Nat.ble xs.length 100 with
 | true => (match MU xs with | some ds => P ds | none => False)
 | false => False
theorem BB {xs : List DV} {P : List PyData → Prop} (h : K9 xs P) : ∃ ds, xs = ds.map DV.dat ∧ ds.length ≤ 100 ∧ P ds := by
 unfold K9 at h
 split at h
 ·rename_i e
  split at h
  ·rename_i ds e2
   have e3 := CG e2
   refine ⟨ds, e3, ?_, h⟩
   have e4 := Nat.le_of_ble_eq_true e
   rwa [e3, List.length_map] at e4
  ·exact h.elim
 ·exact h.elim
noncomputable abbrev DSt := List (Option DV)
structure JY (K : PySem.W.Frag) (M : Mp) (H : Hp) (σ : L2.St) (Δ : DSt) : Prop where
 len : σ.length = Δ.length
 at' : ∀ (i : Nat) (x : DV), Δ[i]? = some (some x) → ∃ v, σ[i]? = some (some v) ∧ QT K M H v x
theorem JY.step {σ : L2.St} {Δ : DSt} (h : JY K M H σ Δ) (st : Step M H M' H') : JY K M' H' σ Δ :=
 ⟨h.len, fun i x e => let ⟨v, e1, e2⟩ := h.at' i x e; ⟨v, e1, e2.step st⟩⟩
theorem JY.set {σ : L2.St} {Δ : DSt} {i : Nat} {v : V} {x : DV} (h : JY K M H σ Δ) (r : QT K M H v x) : JY K M H (σ.set i (some v)) (Δ.set i (some x)) := by
 refine ⟨by rw [List.length_set, List.length_set, h.len], fun j y e => ?_⟩
 by_cases hj : i = j
 ·subst hj
  by_cases hl : i < Δ.length
  ·rw [List.getElem?_set_self hl] at e
   cases e
   exact ⟨v, List.getElem?_set_self (by rw [h.len]; exact hl), r⟩
  ·rw [List.getElem?_eq_none (by rw [List.length_set]; omega)] at e
   cases e
 ·rw [List.getElem?_set_ne hj] at e
  rw [List.getElem?_set_ne hj]
  exact h.at' j y e
noncomputable def XH (N : List Str) (xs : List DV) : DSt := xs.map some ++ List.replicate (N.length - xs.length) none
theorem Paired.Zep {α β : Type} {F : α → β → Prop} : ∀ {l : List α} {m : List β} {i : Nat} {b : β}, Paired F l m → m[i]? = some b → ∃ a, l[i]? = some a ∧ F a b
 | _, _, _, _, .nil, e => by simp at e
 | _, _, 0, _, .cons h _, e => by simp at e; subst e; exact ⟨_, rfl, h⟩
 | _, _, i + 1, b, .cons _ h, e => by
  obtain ⟨a, h1, h2⟩ := Paired.Zep (i := i) (b := b) h (by simpa using e)
  exact ⟨a, by simpa using h1, h2⟩
theorem JY.start {N : List Str} {vs : List V} {xs : List DV} (h : YR K M H vs xs) : JY K M H (start N vs) (XH N xs) := by
 have hl : vs.length = xs.length := Paired.length h
 refine ⟨by unfold L2.start XH; simp [hl], fun i x e => ?_⟩
 unfold XH at e
 unfold L2.start
 by_cases hi : i < xs.length
 ·rw [List.getElem?_append_left (by simpa using hi), List.getElem?_map] at e
  cases q : xs[i]? with
  | none => rw [q] at e; cases e
  | some y =>
   rw [q] at e
   cases e
   obtain ⟨v, h1, h2⟩ := Paired.Zep h q
   exact ⟨v, by rw [List.getElem?_append_left (by simpa [hl] using hi), List.getElem?_map, h1]; rfl, h2⟩
 ·rw [List.getElem?_append_right (by simpa using hi), List.getElem?_replicate] at e
  split at e <;> cases e
end
noncomputable abbrev DK := DV → Mp → Prop
noncomputable abbrev DTE := DSt → Mp → DK → Prop
noncomputable abbrev DTT := DSt → Mp → (Bool → Mp → Prop) → Prop
noncomputable abbrev DTA := DSt → Mp → (List DV → Mp → Prop) → Prop
structure QL where
 nx : DSt → Mp → Prop
 rt : DK
 bk : DSt → Mp → Prop := fun _ _ => False
 ct : DSt → Mp → Prop := fun _ _ => False
noncomputable abbrev DTS := QL → DSt → Mp → Prop
noncomputable def Rch (K : PySem.W.Frag) (M : Mp) (H : Hp) (Φ : DK) (Q : VK) : Prop := ∀ v H' x M', Z4 K M' H' → Step M H M' H' → QT K M' H' v x → Φ x M' → Q v H'
theorem Rch.step {K : PySem.W.Frag} {M M' : Mp} {H H' : Hp} {Φ : DK} {Q : VK} (h : Rch K M H Φ Q) (st : Step M H M' H') : Rch K M' H' Φ Q := fun v H2 x M2 r s2 q f => h v H2 x M2 r (st.trans s2) q f
theorem Rch.dat {K : PySem.W.Frag} {M M' : Mp} {H H' : Hp} {Φ : DK} {Q : VK} {v : V} {d : PyData} (h : Rch K M H Φ Q) (r : Z4 K M' H') (st : Step M H M' H') (hd : Dt K M' H' v d) (f : Φ (.dat d) M') : Q v H' := h v H' (.dat d) M' r st hd f
noncomputable def DE (X : Cx) (e : Expr) (τ : DTE) : Prop := ∃ t, PE X e t ∧ ∀ σ H Δ M Φ Q, Z4 X.K M H → JY X.K M H σ Δ → τ Δ M Φ → Rch X.K M H Φ Q → t σ H Q
noncomputable def DT (X : Cx) (e : Expr) (τ : DTT) : Prop := ∃ t, PT X e t ∧ ∀ σ H Δ M Φ (Q : Bool → Hp → Prop), Z4 X.K M H → JY X.K M H σ Δ → τ Δ M Φ →
 (∀ b H' M', Z4 X.K M' H' → Step M H M' H' → Φ b M' → Q b H') → t σ H Q
noncomputable def DW (X : Cx) (e : Expr) (τ : DTT) : Prop := ∃ t, PW X e t ∧ ∀ σ H Δ M Φ (Q : Bool → Hp → Prop), Z4 X.K M H → JY X.K M H σ Δ → τ Δ M Φ →
 (∀ b H' M', Z4 X.K M' H' → Step M H M' H' → Φ b M' → Q b H') → t σ H Q
noncomputable def DA (X : Cx) (es : List Expr) (τ : DTA) : Prop := ∃ t, PA X es t ∧ ∀ σ H Δ M Φ (Q : List V → Hp → Prop), Z4 X.K M H → JY X.K M H σ Δ → τ Δ M Φ →
 (∀ vs H' xs M', Z4 X.K M' H' → Step M H M' H' → YR X.K M' H' vs xs → Φ xs M' → Q vs H') → t σ H Q
structure KR (K : PySem.W.Frag) (M : Mp) (H : Hp) (D : QL) (E : Ends) : Prop where
 nx : ∀ σ' H' Δ' M', Z4 K M' H' → Step M H M' H' → JY K M' H' σ' Δ' → D.nx Δ' M' → E.nx σ' H'
 rt : Rch K M H D.rt E.rt
 bk : ∀ σ' H' Δ' M', Z4 K M' H' → Step M H M' H' → JY K M' H' σ' Δ' → D.bk Δ' M' → E.bk σ' H'
 ct : ∀ σ' H' Δ' M', Z4 K M' H' → Step M H M' H' → JY K M' H' σ' Δ' → D.ct Δ' M' → E.ct σ' H'
theorem KR.step {K : PySem.W.Frag} {M M' : Mp} {H H' : Hp} {D : QL} {E : Ends} (h : KR K M H D E) (st : Step M H M' H') : KR K M' H' D E :=
 ⟨fun a b c d r s => h.nx a b c d r (st.trans s), h.rt.step st, fun a b c d r s => h.bk a b c d r (st.trans s), fun a b c d r s => h.ct a b c d r (st.trans s)⟩
noncomputable def DS (X : Cx) (st : Stmt) (τ : DTS) : Prop := ∃ t, PS X st t ∧ ∀ σ H Δ M D E, Z4 X.K M H → JY X.K M H σ Δ → τ D Δ M → KR X.K M H D E → t E σ H
noncomputable def DSs (X : Cx) (st : List Stmt) (τ : DTS) : Prop := ∃ t, PSs X st t ∧ ∀ σ H Δ M D E, Z4 X.K M H → JY X.K M H σ Δ → τ D Δ M → KR X.K M H D E → t E σ H
section
variable {X : Cx} {a b c : Expr} {ta tb tc : DTE} {pos : Pos}
noncomputable def ZeW (i : Nat) : DTE := fun Δ M Φ => onV Δ[i]? fun x => Φ x M
noncomputable def dC (d : PyData) : DTE := fun _ M Φ => Φ (.dat d) M
theorem Zb (i : Nat) {x : Str} {pos : Pos} (hN : autoParam (X.N[i]? = some x) zz3._auto_1) (hv : autoParam (Vis X.env.scope x) zz5._auto_1) (hd : autoParam ((x == ("__debug__" : Str)) = false) zz1._auto_1)
  (hcd : autoParam ((x == ("__classdict__" : Str)) = false) zz1._auto_1) : DE X (.Name x pos) (ZeW i) := by
 refine ⟨_, T5 hN hv hd hcd, fun σ H Δ M Φ Q r e h k => ?_⟩
 replace h := Zai h
 obtain ⟨x, e1, h⟩ := h
 obtain ⟨v, e2, q⟩ := e.at' i x e1
 exact ⟨v, e2, k v H x M r Step.refl q h⟩
theorem XS {e : Expr} {v : V} {d : PyData} (h : PE X e (tC v)) (q : ∀ M H, Dt X.K M H v d) : DE X e (dC d) :=
 ⟨_, h, fun _ H _ M _ _ r _ h k => k v H (.dat d) M r Step.refl (q M H) h⟩
theorem Zc {i j pos} : DE X (.Constant (.int i) j pos) (dC (.int i)) := XS TM fun _ _ => .int i
theorem Jq {b j pos} : DE X (.Constant (.bool b) j pos) (dC (.bool b)) := XS Zdk fun _ _ => .bl b
theorem KD {j pos} : DE X (.Constant .none j pos) (dC .none) := XS Zbo fun _ _ => .non
theorem Z1 {x j pos} : DE X (.Constant (.str x) j pos) (dC (.str x)) := XS ZaV fun _ _ => .str x
noncomputable def dTy (n : String) : DTE := fun _ M Φ => Φ (.ty n) M
theorem Kf {x : Str} {n : String} {pos : Pos} (hg : Gl X x) (hm : X.mg x = none) (hv : bootBuiltins x = some (.type n)) (hn : autoParam (x ≠ "__name__") zz1._auto_1) (hdb : autoParam ((x == ("__debug__" : Str)) = false) zz1._auto_1) : DE X (.Name x pos) (dTy n) :=
 ⟨_, RO (v := .ty n) hg hm hv rfl hn hdb, fun _ H _ M _ _ r _ h k => k (.ty n) H (.ty n) M r Step.refl rfl h⟩
end
end DL
namespace DL
open PySem PySem.Spec PyProof.Rows L2
section
variable {K : PySem.W.Frag} {M M' : Mp} {H H' : Hp} {v : V}
theorem QT.bool {b : Bool} (h : QT K M H v (.dat (.bool b))) : v = .bl b := by cases (show Dt K M H v (.bool b) from h); rfl
theorem QT.int {i : Int} (h : QT K M H v (.dat (.int i))) : v = .int i := by cases (show Dt K M H v (.int i) from h); rfl
theorem QT.str {x : Str} (h : QT K M H v (.dat (.str x))) : v = .str x := by cases (show Dt K M H v (.str x) from h); rfl
theorem QT.tup {ds : List PyData} (h : QT K M H v (.dat (.tuple ds))) : ∃ a xs, v = .ref a ∧ TupAt K M H a xs ∧ Dts K M H xs ds := by
 cases (show Dt K M H v (.tuple ds) from h) with
 | tup h1 h2 => exact ⟨_, _, rfl, h1, h2⟩
theorem QT.lst {ds : List PyData} (h : QT K M H v (.dat (.list ds))) : ∃ a xs, v = .ref a ∧ LstAt K M H a xs ∧ Dts K M H xs ds := by
 cases (show Dt K M H v (.list ds) from h) with
 | lst h1 h2 => exact ⟨_, _, rfl, h1, h2⟩
theorem Dt.WB {p : Addr} {xs : List V} {ds : List PyData} (r : Z4 K M H) (hp : H p = none) (h : Dts K M H xs ds) : Dt K M (upd H p (.tup xs)) (.ref p) (.tuple ds) :=
 .tup (.inl ⟨r.tracked hp, .inl Jx⟩) (h.step (Step.new hp))
theorem Dt.XI {p : Addr} {xs : List V} {ds : List PyData} (r : Z4 K M H) (hp : H p = none) (h : Dts K M H xs ds) : Dt K M (upd H p (.lst xs)) (.ref p) (.list ds) :=
 .lst (.inl ⟨r.tracked hp, .inl Jx⟩) (h.step (Step.new hp))
end
noncomputable def Snd (K : PySem.W.Frag) (t : TE) (τ : DTE) : Prop := ∀ σ H Δ M Φ Q, Z4 K M H → JY K M H σ Δ → τ Δ M Φ → Rch K M H Φ Q → t σ H Q
theorem Snd.bin {K : PySem.W.Frag} {ta tb : TE} {τa τb : DTE} (qa : Snd K ta τa) (qb : Snd K tb τb) {M : Mp} {H : Hp} {σ : L2.St} {Δ : DSt} {S : DV → DV → Mp → Prop} {R : V → V → Hp → Prop} (r : Z4 K M H) (e : JY K M H σ Δ)
  (h : τa Δ M fun x M1 => τb Δ M1 fun y M2 => S x y M2)
  (k : ∀ v u H2 x y M2, Z4 K M2 H2 → Step M H M2 H2 → QT K M2 H2 v x → QT K M2 H2 u y → S x y M2 → R v u H2) : ta σ H fun v H1 => tb σ H1 fun u H2 => R v u H2 :=
 qa σ H Δ M _ _ r e h fun v H1 x M1 r1 st rv hx => qb σ H1 Δ M1 _ _ r1 (e.step st) hx fun u H2 y M2 r2 st2 ru hy => k v u H2 x y M2 r2 (st.trans st2) (rv.step st2) ru hy
noncomputable abbrev D2 := DV → DV → Mp → DK → Prop
noncomputable def OpD (X : Cx) (f : Value → Value → Sem Value) (δ : D2) : Prop := ∃ r : R2, OpR X f r ∧ ∀ v u H x y M Φ Q, Z4 X.K M H → QT X.K M H v x → QT X.K M H u y → δ x y M Φ → Rch X.K M H Φ Q → r v u H Q
noncomputable def dOp (δ : D2) (ta tb : DTE) : DTE := fun Δ M Φ => ta Δ M fun x M1 => tb Δ M1 fun y M2 => δ x y M2 Φ
section
variable {X : Cx} {a b c : Expr} {ta tb tc : DTE} {pos : Pos} {op op' : CmpOp} {δ δ' : D2}
theorem Snd.opn {ta' tb' : TE} {r : R2} (ha : Snd X.K ta' ta) (hb : Snd X.K tb' tb) (q : ∀ v u H x y M Φ Q, Z4 X.K M H → QT X.K M H v x → QT X.K M H u y → δ x y M Φ → Rch X.K M H Φ Q → r v u H Q) : Snd X.K (tOp r ta' tb') (dOp δ ta tb) :=
 fun _ _ _ _ _ _ dr e h k => Snd.bin ha hb dr e h fun v u H2 x y M2 r2 st rv ru hs => q v u H2 x y M2 _ _ r2 rv ru hs (k.step st)
theorem Zm {bop : Operator} (ho : OpD X (binaryOp bop) δ) (ha : DE X a ta) (hb : DE X b tb) : DE X (.BinOp a bop b pos) (dOp δ ta tb) := by
 obtain ⟨ta', pa, qa⟩ := ha
 obtain ⟨tb', pb, qb⟩ := hb
 obtain ⟨r, hr, q⟩ := ho
 exact ⟨_, Zc4 hr pa pb, Snd.opn qa qb q⟩
theorem JP (ho : OpD X (compareOp op) δ) (ha : DE X a ta) (hb : DE X b tb) (hm : autoParam (behindInMarks op b = false) zz6._auto_1) : DE X (.Compare a [op] [b] pos) (dOp δ ta tb) := by
 obtain ⟨ta', pa, qa⟩ := ha
 obtain ⟨tb', pb, qb⟩ := hb
 obtain ⟨r, hr, q⟩ := ho
 exact ⟨_, Sz hr pa pb hm, Snd.opn qa qb q⟩
noncomputable def dB (t : DTE) : DTT := fun Δ M Φ => t Δ M fun x M1 => onB x fun c => Φ c M1
theorem Snd.test {t : TE} {τ : DTE} (h : Snd X.K t τ) {σ : L2.St} {H : Hp} {Δ : DSt} {M : Mp} {Φ : Bool → Mp → Prop} {Q : Bool → Hp → Prop} (r : Z4 X.K M H) (e : JY X.K M H σ Δ) (hw : dB τ Δ M Φ)
  (k : ∀ b H' M', Z4 X.K M' H' → Step M H M' H' → Φ b M' → Q b H') : t σ H fun x H1 => ∃ c, x = .bl c ∧ Q c H1 := by
 refine h σ H Δ M _ _ r e hw fun v H1 x M1 r1 st rv hx => ?_
 replace hx := Cd hx
 obtain ⟨c, rfl, hx⟩ := hx
 exact ⟨c, rv.bool, k c H1 M1 r1 st hx⟩
theorem ZF (ho : OpD X (compareOp op) δ) (ha : DE X a ta) (hb : DE X b tb) (hm : autoParam (behindInMarks op b = false) zz6._auto_1) : DT X (.Compare a [op] [b] pos) (dB (dOp δ ta tb)) := by
 obtain ⟨ta', pa, qa⟩ := ha
 obtain ⟨tb', pb, qb⟩ := hb
 obtain ⟨r, hr, q⟩ := ho
 exact ⟨_, Sk hr pa pb hm, fun _ _ _ _ _ _ dr e h k => Snd.test (Snd.opn qa qb q) dr e h k⟩
theorem QE {e : Expr} {τ : DTE} (h : DE X e τ) (he : autoParam (∀ whole, isTrue e X.env whole = (do let v ← whole; standAt e.pos; holding [v] (truthy v))) zz2._auto_1) : DT X e (dB τ) := by
 obtain ⟨t, p, q⟩ := h
 exact ⟨_, Zaf p he, fun _ _ _ _ _ _ dr e h k => Snd.test q dr e h k⟩
noncomputable def Cm (δ δ' : D2) (ta tb tc : DTE) : DTE := fun Δ M Φ => ta Δ M fun x M1 => tb Δ M1 fun y M2 => δ x y M2 fun z M3 => onB z fun k => (if k = true then tc Δ M3 fun w' M4 => δ' y w' M4 Φ else Φ (.dat (.bool false)) M3)
theorem Snd.chain {ta' tb' tc' : TE} {r r' : R2} (ha : Snd X.K ta' ta) (hb : Snd X.K tb' tb) (hc : Snd X.K tc' tc) (q : ∀ v u H x y M Φ Q, Z4 X.K M H → QT X.K M H v x → QT X.K M H u y → δ x y M Φ → Rch X.K M H Φ Q → r v u H Q)
  (q' : ∀ v u H x y M Φ Q, Z4 X.K M H → QT X.K M H v x → QT X.K M H u y → δ' x y M Φ → Rch X.K M H Φ Q → r' v u H Q) : Snd X.K (Hc r r' ta' tb' tc') (Cm δ δ' ta tb tc) := by
 intro σ H Δ M Φ Q dr e h k
 refine Snd.bin ha hb dr e h fun v u H2 x y M2 r2 st rv ru hs => ?_
 refine q v u H2 x y M2 _ _ r2 rv ru hs fun z H3 zd M3 r3 st3 rz hz => ?_
 replace hz := Cd hz
 obtain ⟨kb, rfl, hz⟩ := hz
 refine ⟨kb, rz.bool, ?_⟩
 cases kb with
 | true =>
  have hz' : tc Δ M3 fun w' M4 => δ' y w' M4 Φ := by simpa using hz
  rw [if_pos rfl]
  refine hc σ H3 Δ M3 _ _ r3 (e.step (st.trans st3)) hz' fun w' H4 wd M4 r4 st4 rw4 hw4 => ?_
  exact q' u w' H4 y wd M4 _ _ r4 (ru.step (st3.trans st4)) rw4 hw4 (k.step (st.trans (st3.trans st4)))
 | false =>
  have hz' : Φ (.dat (.bool false)) M3 := by simpa using hz
  rw [if_neg Bool.false_ne_true]
  exact k.dat r3 (st.trans st3) (Dt.bl false) hz'
theorem Uy (ho : OpD X (compareOp op) δ) (ho' : OpD X (compareOp op') δ') (ha : DE X a ta) (hb : DE X b tb) (hc : DE X c tc) (hm : autoParam (lastMarks [op, op'] [b, c] = false) zz4._auto_1) :
  DE X (.Compare a [op, op'] [b, c] pos) (Cm δ δ' ta tb tc) := by
 obtain ⟨ta', pa, qa⟩ := ha
 obtain ⟨tb', pb, qb⟩ := hb
 obtain ⟨tc', pc, qc⟩ := hc
 obtain ⟨r, hr, q⟩ := ho
 obtain ⟨r', hr', q'⟩ := ho'
 exact ⟨_, Ni hr hr' pa pb pc hm, Snd.chain qa qb qc q q'⟩
theorem UE (ho : OpD X (compareOp op) δ) (ho' : OpD X (compareOp op') δ') (ha : DE X a ta) (hb : DE X b tb) (hc : DE X c tc) (hm : autoParam (lastMarks [op, op'] [b, c] = false) zz4._auto_1) :
  DT X (.Compare a [op, op'] [b, c] pos) (dB (Cm δ δ' ta tb tc)) := by
 obtain ⟨ta', pa, qa⟩ := ha
 obtain ⟨tb', pb, qb⟩ := hb
 obtain ⟨tc', pc, qc⟩ := hc
 obtain ⟨r, hr, q⟩ := ho
 obtain ⟨r', hr', q'⟩ := ho'
 exact ⟨_, MN hr hr' pa pb pc hm, fun _ _ _ _ _ _ dr e h k => Snd.test (Snd.chain qa qb qc q q') dr e h k⟩
variable {tA tB' : DTT} {rest : List Expr}
noncomputable def Ze0 (t u : DTT) : DTT := fun Δ M Φ => t Δ M fun c M1 => if c = true then u Δ M1 Φ else Φ false M1
noncomputable def dOr (t u : DTT) : DTT := fun Δ M Φ => t Δ M fun c M1 => if c = true then Φ true M1 else u Δ M1 Φ
noncomputable def ZeQ (t : DTT) : DTT := fun Δ M Φ => t Δ M fun c M1 => Φ (!c) M1
theorem DW.dt {e : Expr} {τ : DTT} (h : DW X e τ) : DT X e τ := by
 obtain ⟨t, p, q⟩ := h
 exact ⟨t, p.pt, q⟩
theorem Xs (ha : DT X a tA) : DW X (.BoolOp .And [a] pos) tA := by
 obtain ⟨t, p, q⟩ := ha
 exact ⟨t, RB p, q⟩
theorem Y4 (ha : DT X a tA) : DW X (.BoolOp .Or [a] pos) tA := by
 obtain ⟨t, p, q⟩ := ha
 exact ⟨t, ZaL p, q⟩
theorem Y5 (ha : DT X a tA) (hb : DW X (.BoolOp .And (b :: rest) pos) tB') : DW X (.BoolOp .And (a :: b :: rest) pos) (Ze0 tA tB') := by
 obtain ⟨t, p, q⟩ := ha
 obtain ⟨u, p2, q2⟩ := hb
 refine ⟨_, Za2 p p2, fun σ H Δ M Φ Q r e h k => ?_⟩
 refine q σ H Δ M _ _ r e h fun c H1 M1 r1 st hc => ?_
 cases c with
 | true => rw [if_pos rfl]; exact q2 σ H1 Δ M1 Φ Q r1 (e.step st) (by simpa using hc) fun b H2 M2 r2 st2 hb => k b H2 M2 r2 (st.trans st2) hb
 | false => rw [if_neg Bool.false_ne_true]; exact k false H1 M1 r1 st (by simpa using hc)
theorem Ye (ha : DT X a tA) (hb : DW X (.BoolOp .Or (b :: rest) pos) tB') : DW X (.BoolOp .Or (a :: b :: rest) pos) (dOr tA tB') := by
 obtain ⟨t, p, q⟩ := ha
 obtain ⟨u, p2, q2⟩ := hb
 refine ⟨_, Zdo p p2, fun σ H Δ M Φ Q r e h k => ?_⟩
 refine q σ H Δ M _ _ r e h fun c H1 M1 r1 st hc => ?_
 cases c with
 | false => rw [if_neg Bool.false_ne_true]; exact q2 σ H1 Δ M1 Φ Q r1 (e.step st) (by simpa using hc) fun b H2 M2 r2 st2 hb => k b H2 M2 r2 (st.trans st2) hb
 | true => rw [if_pos rfl]; exact k true H1 M1 r1 st (by simpa using hc)
theorem Q7 (ha : DT X a tA) : DT X (.UnaryOp .Not a pos) (ZeQ tA) := by
 obtain ⟨t, p, q⟩ := ha
 exact ⟨_, TY p, fun σ H Δ M Φ Q r e h k => q σ H Δ M _ _ r e h fun c H1 M1 r1 st hc => k _ H1 M1 r1 st hc⟩
noncomputable def Za6 (ta tb : DTE) : DTE := fun Δ M Φ => ta Δ M fun x M1 => onB x fun c => if c = true then tb Δ M1 Φ else Φ (.dat (.bool false)) M1
noncomputable def ZfM (ta tb : DTE) : DTE := fun Δ M Φ => ta Δ M fun x M1 => onB x fun c => if c = true then Φ (.dat (.bool true)) M1 else tb Δ M1 Φ
noncomputable def TC (ta : DTE) : DTE := fun Δ M Φ => ta Δ M fun x M1 => onB x fun c => Φ (.dat (.bool (!c))) M1
theorem JK {bop} (h : DE X a ta) : DE X (.BoolOp bop [a] pos) ta := by
 obtain ⟨t, p, q⟩ := h
 exact ⟨t, ZbI p, q⟩
theorem QI (ha : DE X a ta) (hb : DE X (.BoolOp .And (b :: rest) pos) tb) : DE X (.BoolOp .And (a :: b :: rest) pos) (Za6 ta tb) := by
 obtain ⟨t, p, q⟩ := ha
 obtain ⟨u, p2, q2⟩ := hb
 refine ⟨_, ZbF p p2, fun σ H Δ M Φ Q r e h k => ?_⟩
 refine q σ H Δ M _ _ r e h fun v H1 x M1 r1 st rv hx => ?_
 replace hx := Cd hx
 obtain ⟨c, rfl, hx⟩ := hx
 refine ⟨c, rv.bool, ?_⟩
 cases c with
 | true => rw [if_pos rfl]; exact q2 σ H1 Δ M1 Φ Q r1 (e.step st) (by simpa using hx) (k.step st)
 | false => rw [if_neg Bool.false_ne_true]; exact k.dat r1 st (Dt.bl false) (by simpa using hx)
theorem C2 (ha : DE X a ta) : DE X (.UnaryOp .Not a pos) (TC ta) := by
 obtain ⟨t, p, q⟩ := ha
 refine ⟨_, Zcr p, fun σ H Δ M Φ Q r e h k => ?_⟩
 refine q σ H Δ M _ _ r e h fun v H1 x M1 r1 st rv hx => ?_
 replace hx := Cd hx
 obtain ⟨c, rfl, hx⟩ := hx
 exact ⟨c, rv.bool, k.dat r1 st (Dt.bl (!c)) hx⟩
noncomputable def dIf (t : DTT) (ta tb : DTE) : DTE := fun Δ M Φ => t Δ M fun c M1 => if c = true then ta Δ M1 Φ else tb Δ M1 Φ
theorem Lw (hc : DT X c tA) (ha : DE X a ta) (hb : DE X b tb) : DE X (.IfExp c a b pos) (dIf tA ta tb) := by
 obtain ⟨t, p, q⟩ := hc
 obtain ⟨u, p2, q2⟩ := ha
 obtain ⟨w, p3, q3⟩ := hb
 refine ⟨_, NY p p2 p3, fun σ H Δ M Φ Q r e h k => ?_⟩
 refine q σ H Δ M _ _ r e h fun c H1 M1 r1 st hc => ?_
 cases c with
 | true => rw [if_pos rfl]; exact q2 σ H1 Δ M1 Φ Q r1 (e.step st) (by simpa using hc) (k.step st)
 | false => rw [if_neg Bool.false_ne_true]; exact q3 σ H1 Δ M1 Φ Q r1 (e.step st) (by simpa using hc) (k.step st)
noncomputable def Zeo (g : Int → Int) (ta : DTE) : DTE := fun Δ M Φ => ta Δ M fun x M1 => onI x fun i => Φ (.dat (.int (g i))) M1
theorem U1 (ha : DE X a ta) : DE X (.UnaryOp .USub a pos) (Zeo (fun i => -i) ta) := by
 obtain ⟨t, p, q⟩ := ha
 refine ⟨_, ZdH TJ p, fun σ H Δ M Φ Q r e h k => ?_⟩
 refine q σ H Δ M _ _ r e h fun v H1 x M1 r1 st rv hx => ?_
 replace hx := ZO hx
 obtain ⟨i, rfl, hx⟩ := hx
 exact ⟨i, rv.int, k.dat r1 st (Dt.int (-i)) hx⟩
noncomputable def δI (C : Int → Int → Prop) (g : Int → Int → PyData) : D2 := fun x y M Φ => onI x fun i => onI y fun j => C i j ∧ Φ (.dat (g i j)) M
noncomputable def δI0 (g : Int → Int → PyData) : D2 := fun x y M Φ => onI x fun i => onI y fun j => Φ (.dat (g i j)) M
theorem TR {f : Value → Value → Sem Value} {C : Int → Int → Prop} {g : Int → Int → Int} (h : OpR X f (rI C fun i j => .int (g i j))) : OpD X f (δI C fun i j => .int (g i j)) :=
 ⟨_, h, fun v u H x y M Φ Q r rv ru h k => by
  replace h := ZO h
  obtain ⟨i, e1, h⟩ := h
  replace h := ZO h
  obtain ⟨j, e2, hc, q⟩ := h
  subst e1 e2
  exact ⟨i, j, rv.int, ru.int, hc, k.dat r Step.refl (Dt.int _) q⟩⟩
theorem Zaz {f : Value → Value → Sem Value} {g : Int → Int → Int} (h : OpR X f (rI0 fun i j => .int (g i j))) : OpD X f (δI0 fun i j => .int (g i j)) :=
 ⟨_, h, fun v u H x y M Φ Q r rv ru h k => by
  replace h := ZO h
  obtain ⟨i, e1, h⟩ := h
  replace h := ZO h
  obtain ⟨j, e2, q⟩ := h
  subst e1 e2
  exact ⟨i, j, rv.int, ru.int, k.dat r Step.refl (Dt.int _) q⟩⟩
theorem ON {f : Value → Value → Sem Value} {g : Int → Int → Bool} (h : OpR X f (rI0 fun i j => .bl (g i j))) : OpD X f (δI0 fun i j => .bool (g i j)) :=
 ⟨_, h, fun v u H x y M Φ Q r rv ru h k => by
  replace h := ZO h
  obtain ⟨i, e1, h⟩ := h
  replace h := ZO h
  obtain ⟨j, e2, q⟩ := h
  subst e1 e2
  exact ⟨i, j, rv.int, ru.int, k.dat r Step.refl (Dt.bl _) q⟩⟩
theorem Zy : OpD X (binaryOp .Add) (δI0 fun i j => .int (i + j)) := Zaz Zb7
theorem ZI : OpD X (binaryOp .Sub) (δI0 fun i j => .int (i - j)) := Zaz TH
theorem JH : OpD X (binaryOp .Mult) (δI Tr fun i j => .int (i * j)) := TR ZaW
theorem EK : OpD X (binaryOp .FloorDiv) (δI Zc3 fun i j => .int (i / j)) := TR S8
theorem YN : OpD X (binaryOp .Mod) (δI (fun _ j => 0 < j) fun i j => .int (i % j)) := TR ZaJ
theorem Km : OpD X (binaryOp .Pow) (δI T4 fun i j => .int (i ^ j.toNat)) := TR ZaN
theorem KA : OpD X (compareOp .Lt) (δI0 fun i j => .bool (decide (i < j))) := ON Zeh
theorem Yv : OpD X (compareOp .LtE) (δI0 fun i j => .bool (decide (i ≤ j))) := ON ZdL
theorem R1 : OpD X (compareOp .Gt) (δI0 fun i j => .bool (decide (j < i))) := ON Zd9
theorem Mb : OpD X (compareOp .GtE) (δI0 fun i j => .bool (decide (j ≤ i))) := ON ZdA
noncomputable def δB (g : Bool → Bool → Bool) : D2 := fun x y M Φ => onB x fun c => onB y fun d => Φ (.dat (.bool (g c d))) M
noncomputable def Tz : D2 := fun x y M Φ => onT x fun ds => onT y fun es => ds ≠ [] ∧ ds.length + es.length ≤ sizeLine ∧ Φ (.dat (.tuple (ds ++ es))) M
theorem CS : OpR X (binaryOp .Add) (fun x y H Q => ∃ l b xs zs, x = .ref l ∧ y = .ref b ∧ SqL X.K H l xs ∧ SqL X.K H b zs ∧ xs.length + zs.length ≤ sizeLine ∧ ∀ p, H p = none → Q (.ref p) (upd H p (.lst (xs ++ zs)))) := by
 intro pins s σ H x y v u Q I rx ry h
 obtain ⟨l, b, xs, zs, rfl, rfl, hl, hb, hz, q⟩ := h
 cases rx
 cases ry
 obtain ⟨its, r1, p1, _⟩ := I.list hl
 obtain ⟨its2, r2, p2, _⟩ := I.list hb
 obtain ⟨⟨cls, dd, data, sl⟩, ho, hc, n, hd⟩ := p1.isList
 obtain ⟨⟨cls2, dd2, data2, sl2⟩, ho2, hc2, n2, hd2⟩ := p2.isList
 simp only at hc hd hc2 hd2
 subst hc hd hc2 hd2
 have e : its.toArray ++ its2.toArray = (its ++ its2).toArray := by simp
 have hsz : its.toArray.size + its2.toArray.size ≤ sizeLine := by rw [List.size_toArray, List.size_toArray, ← r1.length, ← r2.length]; exact hz
 refine concat_meets ⟨_, ho, rfl⟩ ⟨_, ho2, rfl⟩ noFill_list_add seq_list_add PySem.F.slot_list_add PySem.F.entry_list_add (PySem.F.args_list_add_2 _ _) (list_addW l b its.toArray its2.toArray n n2 dd dd2 sl sl2 hsz) ⟨ho, ho2, ?_⟩
 rw [e]
 exact ⟨.ref _, _, I.Zfu (t' := s.toks) (r1.append r2) (by rw [List.length_append]; exact hz), rfl, q _ I.fresh⟩
noncomputable def ZaK : D2 := fun x y M Φ => onL x fun ds => onL y fun es => ds.length + es.length ≤ sizeLine ∧ Φ (.dat (.list (ds ++ es))) M
noncomputable def RJ : D2 := fun x y M Φ => onL x fun ds => onL y fun es => ds.length + es.length ≤ sizeLine ∧ ∀ p, M p = none → Φ (.own p) (Z3 M p (.lst (ds ++ es)))
end
noncomputable def Zex : DTA := fun _ M Φ => Φ [] M
noncomputable def Zcm (ta : DTE) (tr : DTA) : DTA := fun Δ M Φ => ta Δ M fun x M1 => tr Δ M1 fun xs M2 => Φ (x :: xs) M2
section
variable {X : Cx} {e : Expr} {es : List Expr} {te : DTE} {t : DTA} {pos : Pos}
theorem Zd : DA X [] Zex := ⟨_, Ff, fun _ H _ M _ _ r _ h k => k [] H [] M r Step.refl .nil h⟩
theorem Za (ha : DE X e te) (hr : DA X es t) (hs : autoParam (starEach (e :: es) X.env = (false, eval e X.env) :: starEach es X.env) zz3._auto_1) : DA X (e :: es) (Zcm te t) := by
 obtain ⟨u, p, q⟩ := ha
 obtain ⟨w, p2, q2⟩ := hr
 refine ⟨_, GW p p2 hs, fun σ H Δ M Φ Q r e h k => ?_⟩
 refine q σ H Δ M _ _ r e h fun v H1 x M1 r1 st rv hx => ?_
 exact q2 σ H1 Δ M1 _ _ r1 (e.step st) hx fun vs H2 xs M2 r2 st2 rvs hxs => k (v :: vs) H2 (x :: xs) M2 r2 (st.trans st2) (.cons (rv.step st2) rvs) hxs
noncomputable def ZeR (t : DTA) : DTE := fun Δ M Φ => t Δ M fun xs M1 => K9 xs fun ds => Φ (.dat (.tuple ds)) M1
noncomputable def ZeI (t : DTA) : DTE := fun Δ M Φ => t Δ M fun xs M1 => K9 xs fun ds => Φ (.dat (.list ds)) M1
noncomputable def ZaP (t : DTA) : DTE := fun Δ M Φ => t Δ M fun xs M1 => K9 xs fun ds => ∀ p, M1 p = none → Φ (.own p) (Z3 M1 p (.lst ds))
theorem Zk {x1} (h : DA X es t) : DE X (.Tuple es x1 pos) (ZeR t) := by
 obtain ⟨u, p, q⟩ := h
 refine ⟨_, PN p, fun σ H Δ M Φ Q r e h k => ?_⟩
 refine q σ H Δ M _ _ r e h fun vs H1 xs M1 r1 st rv hx => ?_
 replace hx := BB hx
 obtain ⟨ds, rfl, hz', hx⟩ := hx
 have hz : ds.length ≤ sizeLine := by rw [sizeLine_eq]; omega
 have hd := rv.ZcO
 refine ⟨by rw [hd.length]; exact hz, fun p hp => ?_⟩
 exact k.dat (r1.new hp) (st.trans (Step.new hp)) (Dt.WB r1 hp hd) hx
theorem Qb (h : DA X es t) : DE X (.List es pos) (ZeI t) := by
 obtain ⟨u, p, q⟩ := h
 refine ⟨_, Pc p, fun σ H Δ M Φ Q r e h k => ?_⟩
 refine q σ H Δ M _ _ r e h fun vs H1 xs M1 r1 st rv hx => ?_
 replace hx := BB hx
 obtain ⟨ds, rfl, hz', hx⟩ := hx
 have hz : ds.length ≤ sizeLine := by rw [sizeLine_eq]; omega
 have hd := rv.ZcO
 refine ⟨by rw [hd.length]; exact hz, fun p hp => ?_⟩
 exact k.dat (r1.new hp) (st.trans (Step.new hp)) (Dt.XI r1 hp hd) hx
theorem Q0 (h : DA X es t) : DE X (.List es pos) (ZaP t) := by
 obtain ⟨u, p, q⟩ := h
 refine ⟨_, Pc p, fun σ H Δ M Φ Q r e h k => ?_⟩
 refine q σ H Δ M _ _ r e h fun vs H1 xs M1 r1 st rv hx => ?_
 replace hx := BB hx
 obtain ⟨ds, rfl, hz', hx⟩ := hx
 have hz : ds.length ≤ sizeLine := by rw [sizeLine_eq]; omega
 have hd := rv.ZcO
 refine ⟨by rw [hd.length]; exact hz, fun p hp => ?_⟩
 exact k _ _ (.own p) _ (r1.XF (Step.Yg hp) hd) (st.trans (Step.Yg hp)) rfl (hx p (r1.tracked hp))
noncomputable def ZeP (t : DTE) : DTE := fun Δ M Φ => t Δ M fun x M1 => onO x fun l => XT (M1 l) fun ds => Φ (.dat (.list ds)) (K6 M1 l)
theorem CM (h : DE X e te) : DE X e (ZeP te) := by
 obtain ⟨u, p, q⟩ := h
 refine ⟨u, p, fun σ H Δ M Φ Q r e h k => ?_⟩
 refine q σ H Δ M _ _ r e h fun v H1 x M1 r1 st rv hx => ?_
 replace hx := Jm hx
 obtain ⟨l, rfl, hx⟩ := hx
 replace hx := Vk hx
 obtain ⟨ds, hm, hx⟩ := hx
 obtain ⟨vs, e1, e2⟩ := r1.ls l ds hm
 cases (show v = .ref l from rv)
 exact k.dat r1.frz (st.trans Step.frz) (Dt.lst (.inl ⟨Gg, .inl e1⟩) (e2.step Step.frz)) hx
noncomputable def DY : List PyData → Nat → (PyData → Prop) → Prop
 | [], _, _ => False
 | d :: _, 0, P => P d
 | _ :: r, n + 1, P => DY r n P
noncomputable def Ku (ds : List PyData) (i : Int) (P : PyData → Prop) : Prop := match i with
 | Int.ofNat n => DY ds n P
 | Int.negSucc n => DY ds.reverse n P
theorem W8 : ∀ {ds : List PyData} {n : Nat} {P : PyData → Prop}, DY ds n P → ∃ d, ds[n]? = some d ∧ P d
 | [], _, _, h => h.elim
 | d :: _, 0, _, h => ⟨d, rfl, h⟩
 | _ :: r, n + 1, _, h => by
  obtain ⟨d, e, hp⟩ := W8 (ds := r) (n := n) h
  exact ⟨d, by rw [List.getElem?_cons_succ]; exact e, hp⟩
theorem Uv : ∀ {ds : List PyData} {n : Nat} {P : PyData → Prop} {d : PyData}, ds[n]? = some d → P d → DY ds n P
 | [], _, _, _, e, _ => by simp at e
 | d :: _, 0, _, _, e, h => by simp at e; subst e; exact h
 | _ :: r, n + 1, _, _, e, h => Uv (ds := r) (n := n) (by rw [List.getElem?_cons_succ] at e; exact e) h
theorem Sq {ds : List PyData} {i : Int} {P : PyData → Prop} (h : Ku ds i P) : ∃ d, atI ds i = some d ∧ P d := by
 unfold Ku at h
 split at h
 ·rename_i n
  replace h := W8 h
  obtain ⟨d, e, hp⟩ := h
  exact ⟨d, Vl e, hp⟩
 ·rename_i n
  replace h := W8 h
  obtain ⟨d, e, hp⟩ := h
  refine ⟨d, ?_, hp⟩
  have hl := (List.getElem?_eq_some_iff.mp e).1
  rw [List.length_reverse] at hl
  rw [List.getElem?_reverse hl] at e
  unfold L2.atI ixN
  have e1 : ¬ (0 ≤ Int.negSucc n) := by omega
  rw [if_neg e1]
  have e2 : -(ds.length : Int) ≤ Int.negSucc n := by omega
  rw [if_pos e2]
  have e3 : (Int.negSucc n + (ds.length : Int)).toNat = ds.length - 1 - n := by omega
  simp only [e3]
  exact e
theorem JE {ds : List PyData} {i : Int} {P : PyData → Prop} {d : PyData} (e : atI ds i = some d) (h : P d) : Ku ds i P := by
 unfold L2.atI at e
 cases i with
 | ofNat n =>
  have hh : ixN ds.length (Int.ofNat n) = if n < ds.length then some n else none := by
   unfold ixN
   rw [if_pos (show (0 : Int) ≤ Int.ofNat n from Int.natCast_nonneg n)]
   by_cases hn : n < ds.length
   ·rw [if_pos hn, if_pos (show Int.ofNat n < _ by show ((n : Nat) : Int) < _; omega)]
    rfl
   ·rw [if_neg hn, if_neg (show ¬ Int.ofNat n < _ by show ¬ ((n : Nat) : Int) < _; omega)]
  rw [hh] at e
  split at e
  ·exact Uv (by exact e) h
  ·cases e
 | negSucc n =>
  unfold ixN at e
  rw [if_neg (by omega)] at e
  by_cases hn : -(ds.length : Int) ≤ Int.negSucc n
  ·rw [if_pos hn] at e
   have e3 : (Int.negSucc n + (ds.length : Int)).toNat = ds.length - 1 - n := by omega
   simp only [e3] at e
   refine Uv (d := d) ?_ h
   rw [List.getElem?_reverse (by omega)]
   exact e
  ·rw [if_neg hn] at e
   cases e
theorem Fb (l : List PyData) (a : PyData) (P : PyData → Prop) : Ku (l ++ [a]) (-1) P = P a := by
 show DY (l ++ [a]).reverse 0 P = P a
 rw [List.reverse_append]
 rfl
noncomputable def δIx : D2 := fun x y M Φ => onQ x M fun ds => onI y fun i => Ku ds i fun d => Φ (.dat d) M
theorem Dts.atI {K : PySem.W.Frag} {M : Mp} {H : Hp} {vs : List V} {ds : List PyData} {i : Int} {d : PyData} (h : Dts K M H vs ds) (e : L2.atI ds i = some d) : ∃ v, L2.atI vs i = some v ∧ Dt K M H v d := by
 unfold L2.atI at e ⊢
 rw [h.length]
 cases q : ixN ds.length i with
 | none => rw [q] at e; cases e
 | some j =>
  rw [q] at e
  exact h.get e
theorem Zg {a b : Expr} {ta tb : DTE} (ha : DE X a ta) (hb : DE X b tb) (hs : autoParam (Fo b) zz7._auto_1) : DE X (.Subscript a b pos) (dOp δIx ta tb) := by
 obtain ⟨ta', pa, qa⟩ := ha
 obtain ⟨tb', pb, qb⟩ := hb
 refine ⟨_, Zee Zas pa pb hs, Snd.opn qa qb fun v u H x y M Φ Q r rv ru h k => ?_⟩
 replace h := Gy h
 obtain ⟨ds, hx, h⟩ := h
 replace h := ZO h
 obtain ⟨i, rfl, h⟩ := h
 replace h := Sq h
 obtain ⟨d, hd, q⟩ := h
 cases ru.int
 rcases hx with rfl | rfl | ⟨l, rfl, hm⟩
 ·obtain ⟨p, xs, rfl, h1, h2⟩ := rv.tup
  obtain ⟨w', e1, e2⟩ := h2.atI hd
  exact .inr (.inl ⟨p, xs, i, w', rfl, rfl, h1.sq, e1, k.dat r Step.refl e2 q⟩)
 ·obtain ⟨p, xs, rfl, h1, h2⟩ := rv.lst
  obtain ⟨w', e1, e2⟩ := h2.atI hd
  exact .inl ⟨p, xs, i, w', rfl, rfl, h1.sq, e1, k.dat r Step.refl e2 q⟩
 ·cases (show v = .ref l from rv)
  obtain ⟨vs, g1, g2⟩ := r.ls l ds hm
  obtain ⟨w', e1, e2⟩ := g2.atI hd
  exact .inl ⟨l, vs, i, w', rfl, rfl, SqL.of g1, e1, k.dat r Step.refl e2 q⟩
end
noncomputable abbrev D1 := List DV → Mp → DK → Prop
noncomputable def VO (X : Cx) (f : Value) (δ : D1) : Prop := ∃ r, VI X f r ∧ ∀ vs H xs M Φ Q, Z4 X.K M H → YR X.K M H vs xs → δ xs M Φ → Rch X.K M H Φ Q → r vs H Q
noncomputable def dCB (δ : D1) (t : DTA) : DTE := fun Δ M Φ => t Δ M fun xs M1 => δ xs M1 Φ
section
variable {X : Cx} {e : Expr} {es : List Expr} {t : DTA} {pos p : Pos} {x : Str} {id : String} {δ : D1}
theorem Zj (hc : VO X (.builtin id) δ) (hg : Gl X x) (hm : X.mg x = none) (hv : bootBuiltins x = some (.builtin id)) (ha : DA X (e :: es) t) (hn : autoParam (x ≠ "__name__") zz1._auto_1) (hdb : autoParam ((x == ("__debug__" : Str)) = false) zz1._auto_1)
  (he : autoParam (starEach (e :: es) X.env = (false, eval e X.env) :: starEach es X.env) zz3._auto_1) (hpl : autoParam ((backTo pos (starEach es X.env)).any (·.1) = false) zz3._auto_1) : DE X (.Call (.Name x p) (e :: es) [] pos) (dCB δ t) := by
 obtain ⟨u, p, q⟩ := ha
 obtain ⟨r, hr, qr⟩ := hc
 refine ⟨_, Nk hr hg hm hv p hn hdb he hpl, fun σ H Δ M Φ Q r e h k => ?_⟩
 exact q σ H Δ M _ _ r e h fun vs H1 xs M1 r1 st rv hx => qr vs H1 xs M1 _ _ r1 rv hx (k.step st)
theorem Qq (hc : VO X (.type id) δ) (hg : Gl X x) (hm : X.mg x = none) (hv : bootBuiltins x = some (.type id)) (ha : DA X (e :: es) t) (hn : autoParam (x ≠ "__name__") zz1._auto_1) (hdb : autoParam ((x == ("__debug__" : Str)) = false) zz1._auto_1)
  (he : autoParam (starEach (e :: es) X.env = (false, eval e X.env) :: starEach es X.env) zz3._auto_1) (hpl : autoParam ((backTo pos (starEach es X.env)).any (·.1) = false) zz3._auto_1) : DE X (.Call (.Name x p) (e :: es) [] pos) (dCB δ t) := by
 obtain ⟨u, p, q⟩ := ha
 obtain ⟨r, hr, qr⟩ := hc
 refine ⟨_, Es hr hg hm hv p hn hdb he hpl, fun σ H Δ M Φ Q r e h k => ?_⟩
 exact q σ H Δ M _ _ r e h fun vs H1 xs M1 r1 st rv hx => qr vs H1 xs M1 _ _ r1 rv hx (k.step st)
theorem Paired.one {α β : Type} {F : α → β → Prop} {l : List α} {b : β} (h : Paired F l [b]) : ∃ a, l = [a] ∧ F a b := by
 cases h with
 | cons h1 h2 => cases h2; exact ⟨_, rfl, h1⟩
theorem Paired.two {α β : Type} {F : α → β → Prop} {l : List α} {b c : β} (h : Paired F l [b, c]) : ∃ a a', l = [a, a'] ∧ F a b ∧ F a' c := by
 cases h with
 | cons h1 h2 =>
  obtain ⟨a, rfl, h3⟩ := Paired.one h2
  exact ⟨_, a, rfl, h1, h3⟩
noncomputable def TF : D1 := fun xs M Φ => on1 xs fun x => onQ x M fun ds => Φ (.dat (.int ds.length)) M
theorem Qc : VO X (.builtin "len") TF := by
 refine ⟨_, UT, fun vs H xs M Φ Q r rv h k => ?_⟩
 replace h := Qa h
 obtain ⟨x, rfl, h⟩ := h
 replace h := Gy h
 obtain ⟨ds, hx, q⟩ := h
 have fin : Q (.int ds.length) H := k.dat r Step.refl (Dt.int _) q
 rcases hx with rfl | rfl | ⟨l, rfl, hm⟩
 ·obtain ⟨v, rfl, h1⟩ := Paired.one rv
  obtain ⟨p, ys, rfl, g1, g2⟩ := QT.tup h1
  exact ⟨p, ys, rfl, .inr g1.sq, by rw [g2.length]; exact fin⟩
 ·obtain ⟨v, rfl, h1⟩ := Paired.one rv
  obtain ⟨p, ys, rfl, g1, g2⟩ := QT.lst h1
  exact ⟨p, ys, rfl, .inl g1.sq, by rw [g2.length]; exact fin⟩
 ·obtain ⟨v, rfl, h1⟩ := Paired.one rv
  cases (show v = .ref l from h1)
  obtain ⟨ws, g1, g2⟩ := r.ls l ds hm
  exact ⟨l, ws, rfl, .inl (SqL.of g1), by rw [g2.length]; exact fin⟩
noncomputable def ZbJ : D1 := fun xs M Φ => on1 xs fun x => onS x fun z => z.length ≤ sizeLine ∧ Φ (.dat (.int z.length)) M
noncomputable def PV : D1 := fun xs M Φ => on1 xs fun x => onI x fun i => i.natAbs.log2 < 1920 ∧ Φ (.dat (.str (toString i))) M
theorem FO : VO X (.type "str") PV := by
 refine ⟨_, GK, fun vs H xs M Φ Q r rv h k => ?_⟩
 replace h := Qa h
 obtain ⟨x, rfl, h⟩ := h
 replace h := ZO h
 obtain ⟨i, rfl, hz, q⟩ := h
 obtain ⟨v, rfl, h1⟩ := Paired.one rv
 exact ⟨i, by rw [QT.int h1], hz, k.dat r Step.refl (Dt.str _) q⟩
noncomputable def Zcb : D1 := fun xs M Φ => on1 xs fun x => onI x fun i => Φ (.dat (.int (if i < 0 then -i else i))) M
theorem Wy : VO X (.builtin "abs") Zcb := by
 refine ⟨_, L8, fun vs H xs M Φ Q r rv h k => ?_⟩
 replace h := Qa h
 obtain ⟨x, rfl, h⟩ := h
 replace h := ZO h
 obtain ⟨i, rfl, q⟩ := h
 obtain ⟨v, rfl, h1⟩ := Paired.one rv
 exact ⟨i, by rw [QT.int h1], k.dat r Step.refl (Dt.int _) q⟩
noncomputable def δ2I (g : Int → Int → Int) : D1 := fun xs M Φ => on2 xs fun x y => onI x fun i => onI y fun j => Φ (.dat (.int (g i j))) M
theorem VX (hc : X.calm = true) : VO X (.builtin "max") (δ2I fun i j => max i j) := by
 refine ⟨_, EH hc, fun vs H xs M Φ Q r rv h k => ?_⟩
 replace h := Zz h
 obtain ⟨x, y, rfl, h⟩ := h
 replace h := ZO h
 obtain ⟨i, rfl, h⟩ := h
 replace h := ZO h
 obtain ⟨j, rfl, q⟩ := h
 obtain ⟨v, u, rfl, h1, h2⟩ := Paired.two rv
 have e : (if j > i then j else i) = max i j := by rw [Int.max_def]; split <;> split <;> omega
 exact ⟨i, j, by rw [QT.int h1, QT.int h2], by rw [e]; exact k.dat r Step.refl (Dt.int _) q⟩
theorem Yk (hc : X.calm = true) : VO X (.builtin "min") (δ2I fun i j => min i j) := by
 refine ⟨_, Fq hc, fun vs H xs M Φ Q r rv h k => ?_⟩
 replace h := Zz h
 obtain ⟨x, y, rfl, h⟩ := h
 replace h := ZO h
 obtain ⟨i, rfl, h⟩ := h
 replace h := ZO h
 obtain ⟨j, rfl, q⟩ := h
 obtain ⟨v, u, rfl, h1, h2⟩ := Paired.two rv
 have e : (if j < i then j else i) = min i j := by rw [Int.min_def]; split <;> split <;> omega
 exact ⟨i, j, by rw [QT.int h1, QT.int h2], by rw [e]; exact k.dat r Step.refl (Dt.int _) q⟩
noncomputable def CD : D1 := fun xs M Φ => on1 xs fun x => onQ x M fun ds => Φ (.dat (.list ds)) M
theorem U7 : VO X (.type "list") CD := by
 refine ⟨_, Ga, fun vs H xs M Φ Q r rv h k => ?_⟩
 replace h := Qa h
 obtain ⟨x, rfl, h⟩ := h
 replace h := Gy h
 obtain ⟨ds, hx, q⟩ := h
 rcases hx with rfl | rfl | ⟨l0, rfl, hm⟩
 ·obtain ⟨v, rfl, h1⟩ := Paired.one rv
  obtain ⟨p, ys, rfl, g1, g2⟩ := QT.tup h1
  exact ⟨p, ys, rfl, .inr g1.sq, fun l hl => k.dat (r.new hl) (Step.new hl) (Dt.XI r hl g2) q⟩
 ·obtain ⟨v, rfl, h1⟩ := Paired.one rv
  obtain ⟨p, ys, rfl, g1, g2⟩ := QT.lst h1
  exact ⟨p, ys, rfl, .inl g1.sq, fun l hl => k.dat (r.new hl) (Step.new hl) (Dt.XI r hl g2) q⟩
 ·obtain ⟨v, rfl, h1⟩ := Paired.one rv
  cases (show v = .ref l0 from h1)
  obtain ⟨ws, g1, g2⟩ := r.ls l0 ds hm
  exact ⟨l0, ws, rfl, .inl (SqL.of g1), fun l hl => k.dat (r.new hl) (Step.new hl) (Dt.XI r hl g2) q⟩
end
end DL
namespace DL
open PySem PySem.Spec PyProof.Rows L2
mutual
noncomputable def Jo : PyData → Bool
 | .none | .bool _ | .int _ | .str _ => false
 | .list _ => true
 | .tuple xs => QF xs
 | .dict kvs => V5 kvs
noncomputable def QF : List PyData → Bool
 | [] => false
 | x :: xs => Jo x || QF xs
noncomputable def V5 : List (PyData × PyData) → Bool
 | [] => false
 | (k, v) :: r => Jo k || Jo v || V5 r
end
theorem VZ : ∀ (ks ds : List PyData), ks.length = ds.length → V5 (ks.zip ds) = false → QF ds = false
 | [], [], _, _ => by simp [QF]
 | k :: ks, d :: ds, h, e => by
  rw [List.zip_cons_cons, V5] at e
  have e' : (Jo k = false ∧ Jo d = false) ∧ V5 (ks.zip ds) = false := by simpa using e
  rw [QF, e'.1.2, VZ ks ds (by simpa using h) e'.2]; rfl
 | [], _ :: _, h, _ => by simp at h
 | _ :: _, [], h, _ => by simp at h
section
variable {X : Cx} {pins : List (Addr × Obj)} {σ : L2.St} {H : Hp} {s : Shared} {M : Mp}
theorem US {h : Heap} {P : Program} {w : World} : ∀ {es : List DictEntry} {kvs : List (Key × Value)}, Pairs (Qx P w) es kvs → ReadsAll h (es.map (·.key)) (kvs.map fun kv => kD kv.1) []
 | _, _, .nil => .nil
 | _, _, .cons (e := e) (kv := kv) h1 _ h3 => by
  rw [List.map_cons, List.map_cons]
  have hk : Reads h e.key (kD kv.1) [] := by
   rcases ZZ (k := kv.1) (v := e.key) h1 with ⟨i, t, e1, e2⟩ | ⟨x, t, e1, e2⟩
   ·rw [e1, e2]; exact .int i t
   ·rw [e1, e2]; exact .str x t
  exact .cons (as := []) (bs := []) hk (US h3)
theorem Wk {P : Program} {w : World} : ∀ {es : List DictEntry} {kvs : List (Key × Value)}, Pairs (Qx P w) es kvs → es.map (·.val) = kvs.map (·.2)
 | _, _, .nil => rfl
 | _, _, .cons h1 h2 h3 => by rw [List.map_cons, List.map_cons, h2, Wk h3]
theorem KV.vals {kvs : List (Key × V)} {vs : List (Key × Value)} (r : KV kvs vs) : Vals (kvs.map (·.2)) (vs.map (·.2)) ∧ (kvs.map fun kv => kD kv.1) = vs.map fun kv => kD kv.1 := by
 unfold KV at r
 induction r with
 | nil => exact ⟨.nil, rfl⟩
 | cons h _ ih => exact ⟨.cons h.2 ih.1, by rw [List.map_cons, List.map_cons, h.1, ih.2]⟩
theorem E6 {h : Heap} : ∀ {ks : List Key} {us : List Value}, Vals (ks.map kV) us → ReadsAll h us (ks.map kD) []
 | [], _, r => by rw [List.map_nil] at r; cases r; exact .nil
 | k :: ks, _, r => by
  rw [List.map_cons] at r
  cases r with
  | cons r1 r2 =>
   rw [List.map_cons]
   refine .cons (as := []) (bs := []) ?_ (E6 r2)
   cases k with
   | inl i => obtain ⟨t, rfl⟩ := r1; exact .int i t
   | inr x => obtain ⟨t, rfl⟩ := r1; exact .str x t
theorem KT.read (I : Inv X pins σ H s) {kvs : List (List Key × V)} {xs : List (List Key × Addr × Value)} (r : KT H kvs xs) :
  ReadsAll s.heap (xs.map fun x => Value.ref x.2.1) (kvs.map fun kv => PyData.tuple (kv.1.map kD)) [] ∧ Vals (kvs.map (·.2)) (xs.map fun x => x.2.2) := by
 induction r with
 | nil => exact ⟨.nil, .nil⟩
 | @cons p q ps qs h _ ih =>
  obtain ⟨its, r, ⟨o, ho, hc, n, hd⟩, _⟩ := I.tuple (SqT.of (K := X.K) h.2.1)
  rw [List.map_cons, List.map_cons, List.map_cons, List.map_cons]
  exact ⟨.cons (as := []) (bs := []) (.tuple ho hc hd (by simpa using E6 r)) ih.1, .cons h.2.2 ih.2⟩
mutual
theorem Dt.reads (I : Inv X pins σ H s) : ∀ {v : V} {d : PyData}, Dt X.K M H v d → ∀ {u : Value}, RelV v u → ∃ as, Reads s.heap u d as ∧ (Jo d = false → sysModules ∉ as)
 | _, _, .non, _, r => by cases r; exact ⟨[], .none, fun _ h => nomatch h⟩
 | _, _, .bl b, _, r => by cases r; exact ⟨[], .bool b, fun _ h => nomatch h⟩
 | _, _, .int i, _, r => by obtain ⟨t, rfl⟩ := r; exact ⟨[], .int i t, fun _ h => nomatch h⟩
 | _, _, .str x, _, r => by obtain ⟨t, rfl⟩ := r; exact ⟨[], .str x t, fun _ h => nomatch h⟩
 | _, _, .tup h1 h2, _, r => by
  cases r
  obtain ⟨its, rv, ⟨o, ho, hc, n, hd⟩, _⟩ := I.tuple h1.sq
  obtain ⟨as, ra, hs⟩ := Dts.reads I h2 rv
  exact ⟨as, .tuple ho hc hd (by simpa using ra), fun h => hs (by simpa [Jo] using h)⟩
 | _, _, .lst h1 h2, _, r => by
  cases r
  obtain ⟨its, rv, ⟨o, n, ho, hc, _, hd⟩, _⟩ := I.list h1.sq
  obtain ⟨as, ra, hs⟩ := Dts.reads I h2 rv
  exact ⟨_, .list ho hc hd (by simpa using ra), fun h => by simp [Jo] at h⟩
 | _, _, .dK (a := a) (kvs := kvs) (ds := ds) h0 h1 h2, _, r => by
  cases r
  obtain ⟨_, hsys, vs, rel, o, es, ep, ho, hc, hd, _, hp, _⟩ := (show Q5 X.prog X.w H s.heap a (.dK kvs) from I.hok a _ h1)
  obtain ⟨rv, hk⟩ := KV.vals rel
  obtain ⟨bs, rb, hs⟩ := Dts.reads I h2 rv
  have hl : (kvs.map fun kv => kD kv.1).length = ds.length := by rw [List.length_map, ← h2.length, List.length_map]
  refine ⟨a :: [] ++ bs, .dict (as := []) ho hc.1 hd ?_ ?_, fun h => ?_⟩
  ·rw [List.map_fst_zip (Nat.le_of_eq hl), hk]
   exact US hp
  ·rw [List.map_snd_zip (Nat.le_of_eq hl.symm), Wk hp]
   exact rb
  ·have h' : QF ds = false := VZ _ _ hl (by rw [Jo] at h; exact h)
   intro hm
   rcases List.mem_cons.mp hm with e | hm
   ·rw [← e] at hsys
    simp at hsys
   ·exact hs h' hm
 | _, _, .dT (a := a) (kvs := kvs) (ds := ds) h0 h1 h2, _, r => by
  cases r
  obtain ⟨_, hsys, xs, rel, o, es, ep, ho, hc, hd, he, _⟩ := (show Q5 X.prog X.w H s.heap a (.dT kvs) from I.hok a _ h1)
  obtain ⟨rk, rv⟩ := KT.read I rel
  obtain ⟨bs, rb, hs⟩ := Dts.reads I h2 rv
  have hl : (kvs.map fun kv => PyData.tuple (kv.1.map kD)).length = ds.length := by rw [List.length_map, ← h2.length, List.length_map]
  refine ⟨a :: [] ++ bs, .dict (as := []) ho hc.1 hd ?_ ?_, fun h => ?_⟩
  ·rw [List.map_fst_zip (Nat.le_of_eq hl), he, List.map_map]
   exact rk
  ·rw [List.map_snd_zip (Nat.le_of_eq hl.symm), he, List.map_map]
   exact rb
  ·have h' : QF ds = false := VZ _ _ hl (by rw [Jo] at h; exact h)
   intro hm
   rcases List.mem_cons.mp hm with e | hm
   ·rw [← e] at hsys
    simp at hsys
   ·exact hs h' hm
 | _, _, .dX (a := a) (dk := dk) (d := d) h0 h1 hsys h3 h4 h5, _, r => by
  cases r
  obtain ⟨hφ, _⟩ := (show Q5 X.prog X.w H s.heap a (.ext _) from I.hok a _ h1)
  obtain ⟨o, es, n, u, ho, hc, hd, ek, ev, ru⟩ := h3 s.heap hφ
  obtain ⟨as, ra, ha⟩ := Dt.reads I h4 (u := .ref _) rfl
  obtain ⟨bs, rb, hb⟩ := Dt.reads I h5 ru
  refine ⟨a :: (as ++ []) ++ (bs ++ []), .dict ho hc hd ?_ ?_, fun h => ?_⟩
  ·rw [ek]; exact .cons ra .nil
  ·rw [ev]; exact .cons rb .nil
  ·have h' : Jo dk = false ∧ Jo d = false := by simpa [Jo, V5] using h
   intro hm
   rw [List.append_nil, List.append_nil, List.cons_append] at hm
   rcases List.mem_cons.mp hm with e | hm
   ·rw [← e] at hsys
    simp at hsys
   ·rcases List.mem_append.mp hm with hm | hm
    ·exact ha h'.1 hm
    ·exact hb h'.2 hm
theorem Dts.reads (I : Inv X pins σ H s) : ∀ {vs : List V} {ds : List PyData}, Dts X.K M H vs ds → ∀ {us : List Value}, Vals vs us → ∃ as, ReadsAll s.heap us ds as ∧ (QF ds = false → sysModules ∉ as)
 | _, _, .nil, _, r => by cases r; exact ⟨[], .nil, fun _ h => nomatch h⟩
 | _, _, .cons (d := d) (ds := ds) h1 h2, _, r => by
  cases r with
  | cons r1 r2 =>
   obtain ⟨as, ra, ha⟩ := Dt.reads I h1 r1
   obtain ⟨bs, rb, hb⟩ := Dts.reads I h2 r2
   refine ⟨as ++ bs, .cons ra rb, fun h hm => ?_⟩
   have h' : Jo d = false ∧ QF ds = false := by simpa [QF] using h
   rcases List.mem_append.mp hm with hm | hm
   ·exact ha h'.1 hm
   ·exact hb h'.2 hm
end
end
section
variable {X : Cx}
structure Shw (d : PyData) : Prop where
 s : d.showable = true
 m : (d.hasDict && Jo d) = false
 dp : d.depth ≤ 64
 z : d.shown.length ≤ sizeLine
noncomputable def TZ : D1 := fun xs M Φ => on1 xs fun x => onD x fun d => Shw d ∧ Φ (.dat (.str d.shown)) M
noncomputable def tyN : PyData → String
 | .none => "NoneType"
 | .bool _ => "bool"
 | .int _ => "int"
 | .str _ => "str"
 | .list _ => "list"
 | .tuple _ => "tuple"
 | .dict _ => "dict"
theorem LB : VI X (.builtin "isinstance") (fun xs H Q => ∃ v d M T b, xs = [v, .ty T] ∧ Dt X.K M H v d ∧ PySem.W.kitOne X.K (.type (tyN d)) (.type T) = some b ∧ Q (.bl b) H) := by
 intro pins s σ H xs us Q I r h
 obtain ⟨v, d, M, T, b, rfl, hd, e, q⟩ := h
 obtain ⟨u, w', rfl, ru, rt⟩ := vals2 r
 cases (show w' = Value.type T from rt)
 have fin : ∀ tk, EP X pins σ Q (.bool b) { s with toks := tk } := fun tk => ⟨.bl b, H, I.tok tk, rfl, q⟩
 cases hd with
 | non => cases ru; exact PySem.W.kia_one PySem.W.kitx_none I.kIn True.intro e (fun z => nomatch z) fin
 | bl y => cases ru; exact PySem.W.kia_one PySem.W.kitx_bool I.kIn True.intro e (fun z => nomatch z) fin
 | int i => obtain ⟨t, rfl⟩ := ru; exact PySem.W.kia_one PySem.W.kitx_int I.kIn True.intro e (fun z => nomatch z) fin
 | str y => obtain ⟨t, rfl⟩ := ru; exact PySem.W.kia_one PySem.W.kitx_str I.kIn True.intro e (fun z => nomatch z) fin
 | tup h1 _ =>
  cases ru
  obtain ⟨_, _, ⟨o, ho, hc, _⟩, _⟩ := I.tuple h1.sq
  exact PySem.W.kia_one PySem.W.kitx_tuple I.kIn ⟨o, ho, hc⟩ e (fun z => nomatch z) fin
 | lst h1 _ =>
  cases ru
  obtain ⟨_, _, ⟨o, n, ho, hc, _⟩, _⟩ := I.list h1.sq
  exact PySem.W.kia_one PySem.W.kitx_list I.kIn ⟨o, ho, hc⟩ e (fun z => nomatch z) fin
 | dK _ h1 _ =>
  cases ru
  obtain ⟨_, _, vs, _, p⟩ := (show Q5 X.prog X.w H s.heap _ (.dK _) from I.hok _ _ h1)
  obtain ⟨o, es, ep, g1, g2, _⟩ := p
  exact PySem.W.kia_one PySem.W.kitx_dict I.kIn ⟨o, g1, g2.1⟩ e (fun z => nomatch z) fin
 | dT _ h1 _ =>
  cases ru
  obtain ⟨_, _, xs, _, o, es, ep, g1, g2, _⟩ := (show Q5 X.prog X.w H s.heap _ (.dT _) from I.hok _ _ h1)
  exact PySem.W.kia_one PySem.W.kitx_dict I.kIn ⟨o, g1, g2.1⟩ e (fun z => nomatch z) fin
 | dX _ h1 _ h3 _ _ =>
  cases ru
  obtain ⟨hφ, _⟩ := (show Q5 X.prog X.w H s.heap _ (.ext _) from I.hok _ _ h1)
  obtain ⟨o, es, n, u, ho, hc, _⟩ := h3 s.heap hφ
  exact PySem.W.kia_one PySem.W.kitx_dict I.kIn ⟨o, ho, hc⟩ e (fun z => nomatch z) fin
noncomputable def ZT (T : String) (d : PyData) : Bool := tyN d == T || (T == "int" && tyN d == "bool")
theorem Fz (K : PySem.W.Frag) (d : PyData) : PySem.W.kitOne K (.type (tyN d)) (.type "int") = some (ZT "int" d) := by cases d <;> rfl
theorem W6 (K : PySem.W.Frag) (d : PyData) : PySem.W.kitOne K (.type (tyN d)) (.type "bool") = some (ZT "bool" d) := by cases d <;> rfl
theorem kit_tuple (K : PySem.W.Frag) (d : PyData) : PySem.W.kitOne K (.type (tyN d)) (.type "tuple") = some (ZT "tuple" d) := by cases d <;> rfl
noncomputable def SY (T : String) : D1 := fun xs M Φ => match xs with | [.dat d, .ty t] => t = T ∧ Φ (.dat (.bool (ZT T d))) M | _ => False
theorem VS {T : String} (ht : ∀ d, PySem.W.kitOne X.K (.type (tyN d)) (.type T) = some (ZT T d)) : VO X (.builtin "isinstance") (SY T) := by
 refine ⟨_, LB, fun vs H xs M Φ Q r rv h k => ?_⟩
 replace h : ∃ d, xs = [.dat d, .ty T] ∧ Φ (.dat (.bool (ZT T d))) M := by
  unfold SY at h
  split at h
  ·exact ⟨_, by rw [h.1], h.2⟩
  ·exact h.elim
 obtain ⟨d, rfl, q⟩ := h
 obtain ⟨v, u, rfl, h1, h2⟩ := Paired.two rv
 cases (show u = .ty T from h2)
 exact ⟨v, d, M, T, _, rfl, h1, ht d, k.dat r Step.refl (Dt.bl _) q⟩
theorem Zb6 (hu : X.A.units + 64 < cLine) : OpR X (compareOp .Eq) (fun x y H Q => ∃ M d e, Dt X.K M H x d ∧ Dt X.K M H y e ∧ d.canLay0 = true ∧ e.canLay0 = true ∧ min d.depth e.depth ≤ 64 ∧ Q (.bl (PyData.eqv d e)) H) := by
 intro pins s σ H x y v u Q I rx ry h
 obtain ⟨M, d, e, h1, h2, c1, c2, hdp, q⟩ := h
 obtain ⟨as, ra, _⟩ := h1.reads I rx
 obtain ⟨bs, rb, _⟩ := h2.reads I ry
 exact PySem.SeqAt.compareEq_reads ra rb c1 c2 (by omega) ⟨.bl _, H, I, rfl, q⟩
theorem T6 (hu : X.A.units + 64 < cLine) : OpR X (compareOp .NotEq) (fun x y H Q => ∃ M d e, Dt X.K M H x d ∧ Dt X.K M H y e ∧ d.canLay0 = true ∧ e.canLay0 = true ∧ min d.depth e.depth ≤ 64 ∧ Q (.bl (!PyData.eqv d e)) H) := by
 intro pins s σ H x y v u Q I rx ry h
 obtain ⟨M, d, e, h1, h2, c1, c2, hdp, q⟩ := h
 obtain ⟨as, ra, _⟩ := h1.reads I rx
 obtain ⟨bs, rb, _⟩ := h2.reads I ry
 exact PySem.SeqAt.compareNe_reads ra rb c1 c2 (by omega) ⟨.bl _, H, I, rfl, q⟩
noncomputable def ZdQ (d e : PyData) : Bool := d.canLay0 && e.canLay0 && Nat.ble (min d.depth e.depth) 64
noncomputable def eqD : PyData → PyData → (Bool → Prop) → Prop
 | .int i, .int j, P => P (decide (i = j))
 | .str s, .str t, P => P (decide (s = t))
 | .bool a, .bool b, P => P (a == b)
 | d, e, P => ZdQ d e = true ∧ P (PyData.eqv d e)
theorem Po {d e : PyData} {P : Bool → Prop} (h : eqD d e P) : (d.canLay0 = true ∧ e.canLay0 = true ∧ min d.depth e.depth ≤ 64 ∧ P (PyData.eqv d e)) ∨ ∃ s t, d = .str s ∧ e = .str t ∧ P (decide (s = t)) := by
 unfold eqD at h
 split at h
 ·refine .inl ⟨by simp [PyData.canLay0], by simp [PyData.canLay0], by simp [PyData.depth], ?_⟩
  simp only [PyData.eqv]
  rw [Bool.beq_eq_decide_eq]
  exact h
 ·exact .inr ⟨_, _, rfl, rfl, h⟩
 ·refine .inl ⟨by simp [PyData.canLay0], by simp [PyData.canLay0], by simp [PyData.depth], ?_⟩
  simp only [PyData.eqv]
  exact h
 ·have h1 := h.1
  unfold ZdQ at h1
  simp only [Bool.and_eq_true] at h1
  exact .inl ⟨h1.1.1, h1.1.2, Nat.le_of_ble_eq_true h1.2, h.2⟩
theorem ZaS {f : Value → Value → Sem Value} {r1 r2 : R2} (h1 : OpR X f r1) (h2 : OpR X f r2) : OpR X f (fun x y H Q => r1 x y H Q ∨ r2 x y H Q) :=
 fun pins s σ H x y v u Q I rx ry h => h.elim (h1 pins s σ H x y v u Q I rx ry) (h2 pins s σ H x y v u Q I rx ry)
noncomputable def δEq : D2 := fun x y M Φ => onD x fun d => onD y fun e => eqD d e fun b => Φ (.dat (.bool b)) M
noncomputable def δNe : D2 := fun x y M Φ => onD x fun d => onD y fun e => eqD d e fun b => Φ (.dat (.bool (!b))) M
theorem Q6 {k : Nat} (hr : Y8 k X.A) : OpD X (compareOp .Eq) δEq :=
 ⟨_, ZaS (Zb6 hr.units) ZdO, fun v u H x y M Φ Q r rv ru h k => by
  obtain ⟨d, e1, h⟩ := Qo h
  obtain ⟨e, e2, h⟩ := Qo h
  subst e1 e2
  rcases Po h with ⟨c1, c2, hdp, q⟩ | ⟨s, t, rfl, rfl, q⟩
  ·exact .inl ⟨M, d, e, rv, ru, c1, c2, hdp, k.dat r Step.refl (Dt.bl _) q⟩
  ·have q' : Q (.bl (decide (s = t))) H := k.dat r Step.refl (Dt.bl _) q
   refine .inr ⟨by rw [rv.str, ru.str]; rfl, ?_⟩
   rw [rv.str, ru.str, Ue, Bool.beq_eq_decide_eq]
   exact q'⟩
theorem Bn {k : Nat} (hr : Y8 k X.A) : OpD X (compareOp .NotEq) δNe :=
 ⟨_, ZaS (T6 hr.units) Zde, fun v u H x y M Φ Q r rv ru h k => by
  obtain ⟨d, e1, h⟩ := Qo h
  obtain ⟨e, e2, h⟩ := Qo h
  subst e1 e2
  rcases Po h with ⟨c1, c2, hdp, q⟩ | ⟨s, t, rfl, rfl, q⟩
  ·exact .inl ⟨M, d, e, rv, ru, c1, c2, hdp, k.dat r Step.refl (Dt.bl _) q⟩
  ·have q' : Q (.bl (!decide (s = t))) H := k.dat r Step.refl (Dt.bl _) q
   refine .inr ⟨by rw [rv.str, ru.str]; rfl, ?_⟩
   rw [rv.str, ru.str, Ue, Bool.beq_eq_decide_eq]
   exact q'⟩
noncomputable def Zd0 : D2 := fun x y M Φ => onS x fun s => onS y fun t => Φ (.dat (.bool (!decide (s = t)))) M
noncomputable def ZdT : D2 := fun x y M Φ => onS x fun s => onS y fun t => Φ (.dat (.bool (decide (s = t)))) M
noncomputable abbrev DTO := DSt → Mp → (Option Int → Mp → Prop) → Prop
noncomputable def DO (X : Cx) (e : Option Expr) (τ : DTO) : Prop := ∃ t, PO X e t ∧ ∀ σ H Δ M Φ (Q : Option Int → Hp → Prop), Z4 X.K M H → JY X.K M H σ Δ → τ Δ M Φ → (∀ o H' M', Z4 X.K M' H' → Step M H M' H' → Φ o M' → Q o H') → t σ H Q
noncomputable def EO : DTO := fun _ M Φ => Φ none M
noncomputable def Zbn (t : DTE) : DTO := fun Δ M Φ => t Δ M fun x M1 => onI x fun i => Φ (some i) M1
theorem Yn : DO X none EO := ⟨_, S5, fun _ H _ M _ _ r _ h k => k none H M r Step.refl h⟩
theorem JL {e : Expr} {te : DTE} (h : DE X e te) : DO X (some e) (Zbn te) := by
 obtain ⟨t, p, q⟩ := h
 refine ⟨_, RS p, fun σ H Δ M Φ Q r e h k => ?_⟩
 refine q σ H Δ M _ _ r e h fun v H1 x M1 r1 st rv hx => ?_
 replace hx := ZO hx
 obtain ⟨i, rfl, hx⟩ := hx
 exact ⟨i, rv.int, k _ H1 M1 r1 st hx⟩
noncomputable def cutD (xs : List PyData) (lo hi : Option Int) : List PyData := (xs.drop (HT.sIx xs.length 0 lo)).take (HT.sIx xs.length xs.length hi - HT.sIx xs.length 0 lo)
theorem Dts.cut {K : PySem.W.Frag} {M : Mp} {H : Hp} {vs : List V} {ds : List PyData} (h : Dts K M H vs ds) (lo hi : Option Int) : Dts K M H (Rv vs lo hi) (cutD ds lo hi) := by
 unfold Rv cutD
 rw [h.length]
 exact (h.drop _).take _
noncomputable def ZeV (te : DTE) (tl th : DTO) : DTE := fun Δ M Φ => te Δ M fun x M1 => tl Δ M1 fun l M2 => th Δ M2 fun u M3 => onT x fun ds => ¬ (HT.sIx ds.length 0 l = 0 ∧ HT.sIx ds.length ds.length u = ds.length) ∧ Φ (.dat (.tuple (cutD ds l u))) M3
theorem Ez {e : Expr} {te : DTE} {lo hi : Option Expr} {tl th : DTO} {p2 pos : Pos} (he : DE X e te) (hl : DO X lo tl) (hu : DO X hi th) : DE X (.Subscript e (.Slice lo hi none p2) pos) (ZeV te tl th) := by
 obtain ⟨t1, p1, q1⟩ := he
 obtain ⟨t2, p2, q2⟩ := hl
 obtain ⟨t3, p3, q3⟩ := hu
 refine ⟨_, CY Pq p1 p2 p3, fun σ H Δ M Φ Q r e h k => ?_⟩
 refine q1 σ H Δ M _ _ r e h fun v H1 x M1 r1 st rv hx => ?_
 refine q2 σ H1 Δ M1 _ _ r1 (e.step st) hx fun l H2 M2 r2 st2 hl => ?_
 refine q3 σ H2 Δ M2 _ _ r2 (e.step (st.trans st2)) hl fun u H3 M3 r3 st3 hu => ?_
 replace hu := XE hu
 obtain ⟨ds, rfl, hw, hu⟩ := hu
 obtain ⟨a, xs, rfl, h1, h2⟩ := (rv.step (st2.trans st3)).tup
 refine ⟨a, xs, rfl, h1.sq, by rw [h2.length]; exact hw, fun p hp => ?_⟩
 exact k.dat (r3.new hp) ((st.trans (st2.trans st3)).trans (Step.new hp)) (Dt.WB r3 hp (h2.cut l u)) hu
end
end DL
namespace DL
open PySem PySem.Spec PyProof.Rows L2
noncomputable def ZbO : DTS := fun D Δ M => D.nx Δ M
noncomputable def ZcM (t u : DTS) : DTS := fun D Δ M => t { D with nx := u D } Δ M
section
variable {X : Cx} {st : Stmt} {rest : List Stmt} {t u : DTS} {e : Expr} {te : DTE} {pos : Pos}
theorem ZC : DSs X [] ZbO := ⟨_, Te, fun σ H Δ M D E r e h k => k.nx σ H Δ M r Step.refl e h⟩
theorem Ze (h1 : DS X st t) (h2 : DSs X rest u) : DSs X (st :: rest) (ZcM t u) := by
 obtain ⟨t1, p1, q1⟩ := h1
 obtain ⟨t2, p2, q2⟩ := h2
 refine ⟨_, NO p1 p2, fun σ H Δ M D E r e h k => ?_⟩
 refine q1 σ H Δ M { D with nx := u D } { E with nx := t2 E } r e h ⟨fun σ' H' Δ' M' r' st' e' hn => ?_, k.rt, k.bk, k.ct⟩
 exact q2 σ' H' Δ' M' D E r' e' hn (k.step st')
theorem Zi (h1 : DS X st t) : DSs X [st] t := by
 obtain ⟨t1, p1, q1⟩ := h1
 exact ⟨_, Rl p1, q1⟩
noncomputable def Zay : DTS := fun D Δ M => D.bk Δ M
noncomputable def ZdZ : DTS := fun D Δ M => D.ct Δ M
noncomputable def T9 (te : DTE) : DTS := fun D Δ M => te Δ M fun _ M1 => D.nx Δ M1
theorem J6 (he : DE X e te) (hs : autoParam (swapsWith e none pos.line X.env = pure false) zz3._auto_1) : DS X (.Expr e pos) (T9 te) := by
 obtain ⟨t, p, q⟩ := he
 refine ⟨_, Tg p hs, fun σ H Δ M D E r e h k => ?_⟩
 exact q σ H Δ M _ _ r e h fun v H1 x M1 r1 st rv hx => k.nx σ H1 Δ M1 r1 st (e.step st) hx
noncomputable def Zek (te : DTE) : DTS := fun D Δ M => te Δ M D.rt
theorem Zn (he : DE X e te) : DS X (.Return (some e) pos) (Zek te) := by
 obtain ⟨t, p, q⟩ := he
 exact ⟨_, Zb9 p, fun σ H Δ M D E r e h k => q σ H Δ M _ _ r e h k.rt⟩
noncomputable def Zdl : DTS := fun D _ M => D.rt (.dat .none) M
noncomputable def ZcH (c : DTT) (t u : DTS) : DTS := fun D Δ M => c Δ M fun b M1 => if b = true then t D Δ M1 else u D Δ M1
theorem Qf {c : Expr} {a b : List Stmt} {tc : DTT} (hc : DT X c tc) (ha : DSs X a t) (hb : DSs X b u) : DS X (.If c a b pos) (ZcH tc t u) := by
 obtain ⟨t0, p0, q0⟩ := hc
 obtain ⟨t1, p1, q1⟩ := ha
 obtain ⟨t2, p2, q2⟩ := hb
 refine ⟨_, Zdr p0 p1 p2, fun σ H Δ M D E r e h k => ?_⟩
 refine q0 σ H Δ M _ _ r e h fun c H1 M1 r1 st hc => ?_
 cases c with
 | true => rw [if_pos rfl]; exact q1 σ H1 Δ M1 D E r1 (e.step st) (by simpa using hc) (k.step st)
 | false => rw [if_neg Bool.false_ne_true]; exact q2 σ H1 Δ M1 D E r1 (e.step st) (by simpa using hc) (k.step st)
noncomputable abbrev DTG := DV → DSt → Mp → (DSt → Mp → Prop) → Prop
noncomputable abbrev Eo := List DV → DSt → Mp → (DSt → Mp → Prop) → Prop
noncomputable def DG (X : Cx) (tg : Expr) (τ : DTG) : Prop := ∃ t, PG X tg t ∧ ∀ v σ H x Δ M Φ (Q : L2.St → Hp → Prop), Z4 X.K M H → JY X.K M H σ Δ → QT X.K M H v x → τ x Δ M Φ →
 (∀ σ' H' Δ' M', Z4 X.K M' H' → Step M H M' H' → JY X.K M' H' σ' Δ' → Φ Δ' M' → Q σ' H') → t v σ H Q
noncomputable def DGs (X : Cx) (ts : List Expr) (τ : Eo) : Prop := ∃ t, PGs X ts t ∧ ∀ vs σ H xs Δ M Φ (Q : L2.St → Hp → Prop), Z4 X.K M H → JY X.K M H σ Δ → YR X.K M H vs xs → τ xs Δ M Φ →
 (∀ σ' H' Δ' M', Z4 X.K M' H' → Step M H M' H' → JY X.K M' H' σ' Δ' → Φ Δ' M' → Q σ' H') → t vs σ H Q
noncomputable def Kp (i : Nat) : DTG := fun x Δ M Φ => Φ (Δ.set i (some x)) M
theorem Zo (i : Nat) {x : Str} (hN : X.N.Nodup) (hi : autoParam (X.N[i]? = some x) zz3._auto_1) (hx : autoParam (Loc X.env.scope x) zz8._auto_1) (hf : autoParam (X.fn x = true ∨ X.env.scope.names.lookup x = some .local) zz0._auto_1) :
  DG X (.Name x pos) (Kp i) :=
 ⟨_, HZ hN hi hx hf, fun v σ H x Δ M Φ Q r e rv h k => k _ H _ M r Step.refl (e.set rv) h⟩
noncomputable def Rt : Eo := fun xs Δ M Φ => match xs with | [] => Φ Δ M | _ => False
noncomputable def Cr (t : DTG) (u : Eo) : Eo := fun xs Δ M Φ => match xs with | x :: r => t x Δ M fun Δ' M' => u r Δ' M' Φ | [] => False
theorem QZ : DGs X [] Rt := ⟨_, SU, fun vs σ H xs Δ M Φ Q r e rv h k => by
 cases xs with
 | cons x r => exact h.elim
 | nil =>
 have h2 : Φ Δ M := h
 cases rv
 exact ⟨rfl, k σ H Δ M r Step.refl e h2⟩⟩
theorem ZD {es : List Expr} {t : DTG} {u : Eo} (h1 : DG X e t) (h2 : DGs X es u)
  (hs : autoParam ((assignEach (e :: es) X.env).map (·.2) = assign e X.env :: (assignEach es X.env).map (·.2)) zz3._auto_1) : DGs X (e :: es) (Cr t u) := by
 obtain ⟨t1, p1, q1⟩ := h1
 obtain ⟨t2, p2, q2⟩ := h2
 refine ⟨_, MZ p1 p2 hs, fun vs σ H xs Δ M Φ Q r e rv h k => ?_⟩
 obtain ⟨x, xr, e1, h⟩ : ∃ x xr, xs = x :: xr ∧ t x Δ M fun Δ' M' => u xr Δ' M' Φ := by
  cases xs with
  | nil => exact h.elim
  | cons x xr => exact ⟨x, xr, rfl, h⟩
 subst e1
 cases rv with
 | cons ra rr =>
  refine ⟨_, _, rfl, q1 _ σ H x Δ M _ _ r e ra h fun σ' H' Δ' M' r' st e' h' => ?_⟩
  exact q2 _ σ' H' xr Δ' M' Φ Q r' e' (YR.step rr st) h' fun σ2 H2 Δ2 M2 r2 st2 e2 hΦ => k σ2 H2 Δ2 M2 r2 (st.trans st2) e2 hΦ
noncomputable def LM : Nat → List PyData → (List DV → Prop) → Prop
 | 0, [], P => P []
 | n + 1, d :: r, P => LM n r fun xs => P (.dat d :: xs)
 | 0, _ :: _, _ => False
 | _ + 1, [], _ => False
theorem By : ∀ {n : Nat} {ds : List PyData} {P : List DV → Prop}, LM n ds P → ds.length = n ∧ P (ds.map DV.dat)
 | 0, [], _, h => ⟨rfl, h⟩
 | n + 1, d :: r, P, h => by
  obtain ⟨a, b⟩ := By (n := n) (ds := r) h
  exact ⟨by rw [List.length_cons, a], b⟩
 | 0, _ :: _, _, h => h.elim
 | _ + 1, [], _, h => h.elim
noncomputable def Zcf (n : Nat) (t : Eo) : DTG := fun x Δ M Φ => onT x fun ds => LM n ds fun xs => t xs Δ M Φ
theorem Dts.S0 {K : PySem.W.Frag} {M : Mp} {H : Hp} : ∀ {vs : List V} {ds : List PyData}, Dts K M H vs ds → YR K M H vs (ds.map DV.dat)
 | _, _, .nil => .nil
 | _, _, .cons h1 h2 => .cons h1 (Dts.S0 h2)
theorem JZ {es : List Expr} {k : Nat} {t : Eo} {n : Nat} (hc : X.calm = true) (h : DGs X es t) (hn : autoParam ((assignEach es X.env).length = n) zz3._auto_1) (hst : autoParam ((assignEach es X.env).findIdx? (·.1) = none) zz3._auto_1) : DG X (.Tuple es k pos) (Zcf n t) := by
 obtain ⟨t1, p1, q1⟩ := h
 refine ⟨_, ZaD hc p1 hn hst, fun v σ H x Δ M Φ Q r e rv h k => ?_⟩
 replace h := XE h
 obtain ⟨ds, rfl, h⟩ := h
 replace h := By h
 obtain ⟨hl, h⟩ := h
 obtain ⟨a, xs, rfl, h1, h2⟩ := rv.tup
 exact ⟨a, xs, rfl, h1.sq, by rw [h2.length]; exact hl, q1 xs σ H _ Δ M Φ Q r e h2.S0 h k⟩
noncomputable def ZcB (to ti : DTE) : DTG := fun x Δ M Φ => to Δ M fun o M1 => ti Δ M1 fun i M2 => onO o fun l => onI i fun k => onD x fun d => XT (M2 l) fun ds => ∃ j, ixN ds.length k = some j ∧ Φ Δ (Z3 M2 l (.lst (ds.set j d)))
theorem EA {o i : Expr} {to ti : DTE} (ho : DE X o to) (hi : DE X i ti)
  (ha : ∀ v, assign (.Subscript o i pos) X.env v = (do
   let ov ← holding [v] (eval o X.env)
   let iv ← holding [v, ov] (eval i X.env)
   standAt pos
   holding [v, ov, iv] (setItem ov iv v)
   release [v, ov, iv] []) := by intro _; rfl) : DG X (.Subscript o i pos) (ZcB to ti) := by
 obtain ⟨t1, p1, q1⟩ := ho
 obtain ⟨t2, p2, q2⟩ := hi
 refine ⟨_, ZaM p1 p2 set_list ha, fun v σ H x Δ M Φ Q r e rv h k => ?_⟩
 refine Snd.bin q1 q2 r e h fun w1 w2 H2 o' i' M2 r2 st ro ri hs => ?_
 replace hs := Jm hs
 obtain ⟨l, rfl, hs⟩ := hs
 replace hs := ZO hs
 obtain ⟨kk, rfl, hs⟩ := hs
 replace hs := Qo hs
 obtain ⟨d, rfl, hs⟩ := hs
 replace hs := Vk hs
 obtain ⟨ds, hm, j, hj, hΦ⟩ := hs
 obtain ⟨vs, g1, g2⟩ := r2.ls l ds hm
 cases (show w1 = .ref l from ro)
 have rv2 : Dt X.K M2 H2 v d := Dt.step st rv
 have st2 : Step M2 H2 (Z3 M2 l (.lst (ds.set j d))) (upd H2 l (.lst (vs.set j v))) := Step.Gs hm
 refine ⟨l, vs, kk, j, rfl, ri.int, g1, by rw [g2.length]; exact hj, ?_⟩
 exact k σ _ Δ _ (r2.XF st2 (g2.set rv2 j)) (st.trans st2) (e.step (st.trans st2)) hΦ
noncomputable def T3 (te : DTE) (g : DTG) : DTS := fun D Δ M => te Δ M fun x M1 => g x Δ M1 D.nx
theorem Vd {tg : Expr} {g : DTG} (he : DE X e te) (hg : DG X tg g) (hs : autoParam (swapsWithSole [tg] e pos.line X.env = pure false) zz3._auto_1) (hw : autoParam (swappedStores [tg] e X.env = pure none) zz3._auto_1)
  (h1 : autoParam ((assignEach [tg] X.env).map (·.2) = [assign tg X.env]) zz3._auto_1) : DS X (.Assign [tg] e pos) (T3 te g) := by
 obtain ⟨t1, p1, q1⟩ := he
 obtain ⟨t2, p2, q2⟩ := hg
 refine ⟨_, T1 p1 p2 hs hw h1, fun σ H Δ M D E r e h k => ?_⟩
 refine q1 σ H Δ M _ _ r e h fun v H1 x M1 r1 st rv hx => ?_
 exact q2 v σ H1 x Δ M1 _ _ r1 (e.step st) rv hx fun σ' H' Δ' M' r' st' e' hn => k.nx σ' H' Δ' M' r' (st.trans st') e' hn
theorem Zr (i : Nat) {x : Str} {pos' : Pos} (hN : X.N.Nodup) (he : DE X e te) (hi : autoParam (X.N[i]? = some x) zz3._auto_1) (hx : autoParam (Loc X.env.scope x) zz8._auto_1) (hs : autoParam (swapsWith e (some (.Name x pos')) pos.line X.env = pure false) zz3._auto_1)
  (hf : autoParam (X.fn x = true ∨ X.env.scope.names.lookup x = some .local) zz0._auto_1) : DS X (.Assign [.Name x pos'] e pos) (T3 te (Kp i)) := by
 obtain ⟨t1, p1, q1⟩ := he
 refine ⟨_, ZaG hN hi hx p1 hs hf, fun σ H Δ M D E r e h k => ?_⟩
 refine q1 σ H Δ M _ _ r e h fun v H1 x M1 r1 st rv hx => ?_
 exact k.nx _ H1 _ M1 r1 st ((e.step st).set rv) hx
noncomputable def EV (to te : DTE) : DTE := fun Δ M Φ => to Δ M fun x M1 => onO x fun l => XT (M1 l) fun _ => te Δ M1 fun y M2 => onD y fun d => XT (M2 l) fun ds => ds.length < sizeLine ∧ Φ (.dat .none) (Z3 M2 l (.lst (ds ++ [d])))
theorem Je {o : Expr} {to : DTE} {apos cpos : Pos} (ho : DE X o to) (he : DE X e te) (hbase : autoParam (attributeBase o "append" X.env (eval o X.env) = eval o X.env) zz3._auto_1)
  (hfew : ((backTo cpos (starEach [e] X.env)).all (fun x => !x.1) && (backToKw cpos (keywordEach [] X.env)).all (fun x => x.1.isSome)
   && decide ([e].length + ([] : List Keyword).length + (if ([] : List Keyword).isEmpty then 0 else 1) < 30)) = true := by rfl)
  (hline : autoParam ((apos.endLine == cpos.line) = true) zz3._auto_1) (hs : autoParam (starEach [e] X.env = (false, eval e X.env) :: starEach [] X.env) zz3._auto_1) (hplain : autoParam ((backTo cpos (starEach [] X.env)).any (·.1) = false) zz3._auto_1) :
  DE X (.Call (.Attribute o "append" apos) [e] [] cpos) (EV to te) := by
 obtain ⟨t1, p1, q1⟩ := ho
 obtain ⟨t2, p2, q2⟩ := he
 refine ⟨_, Za8 PySem.F.plainAttrs_list PySem.F.slot_list_append PySem.F.type_list_append Lk p1 (GW p2 Ff hs) hbase hfew hline hs hplain, fun σ H Δ M Φ Q r e h k => ?_⟩
 refine q1 σ H Δ M _ _ r e h fun v H1 x M1 r1 st rv hx => ?_
 replace hx := Jm hx
 obtain ⟨l, rfl, hx⟩ := hx
 replace hx := Vk hx
 obtain ⟨oo, ho, hx⟩ := hx
 cases (show v = .ref l from rv)
 have ty : tyV X.K "list" (.ref l) H1 := by
  obtain ⟨vs, g1, _⟩ := r1.ls l oo ho
  exact .inl ⟨rfl, vs, SqL.of g1⟩
 refine ⟨ty, q2 σ H1 Δ M1 _ _ r1 (e.step st) hx fun w H2 y M2 r2 st2 rw2 hy => ?_⟩
 replace hy := Qo hy
 obtain ⟨d, rfl, hy⟩ := hy
 replace hy := Vk hy
 obtain ⟨ds, hm, hz, hy⟩ := hy
 obtain ⟨vs, g1, g2⟩ := r2.ls l ds hm
 have st3 : Step M2 H2 (Z3 M2 l (.lst (ds ++ [d]))) (upd H2 l (.lst (vs ++ [w]))) := Step.Gs hm
 refine ⟨l, vs, w, rfl, rfl, g1, by rw [g2.length]; exact hz, ?_⟩
 exact k.dat (r2.XF st3 (g2.append (.cons rw2 .nil))) (st.trans (st2.trans st3)) Dt.non hy
end
section
variable {X : Cx} {tg iter : Expr} {body : List Stmt} {g : DTG} {tb : DTS} {pos : Pos}
noncomputable def LA (g : DTG) (tb : DTS) (D : QL) (ds : List PyData) (Δ : DSt) (M : Mp) : Prop :=
 ∃ J : Nat → DSt → Mp → Prop, J 0 Δ M ∧ (∀ i d Δ M, ds[i]? = some d → J i Δ M → g (.dat d) Δ M fun Δ2 M2 => tb { D with nx := J (i + 1), ct := J (i + 1), bk := D.nx } Δ2 M2) ∧ ∀ Δ M, J ds.length Δ M → D.nx Δ M
noncomputable def ZbG (te : DTE) (g : DTG) (tb : DTS) : DTS := fun D Δ M => te Δ M fun x M1 => onL x fun ds => LA g tb D ds Δ M1
noncomputable def ZbA (te : DTE) (g : DTG) (tb : DTS) : DTS := fun D Δ M => te Δ M fun x M1 => onT x fun ds => LA g tb D ds Δ M1
theorem Ub {te : DTE} (he : DE X iter te) (hg : DG X tg g) (hb : DSs X body tb) (hp : PassesOwn (model X.prog X.w) X.A X.env X.xe) (hc : X.calm = true) (hs : autoParam (∀ x, foldedSetIterable iter X.env x = pure x) zz2._auto_1) :
  DS X (.For tg iter body [] pos) (ZbG te g tb) := by
 obtain ⟨t1, p1, q1⟩ := he
 obtain ⟨t2, p2, q2⟩ := hg
 obtain ⟨t3, p3, q3⟩ := hb
 refine ⟨_, CC hp hc (HB p1) p2 p3 hs, fun σ H Δ M D E r e h k => ?_⟩
 refine q1 σ H Δ M _ _ r e h fun v H1 x M1 r1 st rv hx => ?_
 replace hx := EI hx
 obtain ⟨ds, rfl, J, j0, jt, jd⟩ := hx
 obtain ⟨a, xs, rfl, h1, h2⟩ := rv.lst
 refine ⟨a, rfl, ⟨xs, h1.sq⟩, L0 (xs := xs) (fun i σ H => ∃ Δ M, Z4 X.K M H ∧ Step M1 H1 M H ∧ JY X.K M H σ Δ ∧ J i Δ M) ⟨Δ, M1, r1, Step.refl, e.step st, j0⟩
  (fun i σ H _ ⟨Δ, M, _, st', _, _⟩ => (h1.step st').sq) (fun i y σ H hi ⟨Δ, M, r', st', e', j⟩ => ?_) (fun σ H ⟨Δ, M, r', st', e', j⟩ => ?_)⟩
 ·obtain ⟨d, hd, hy⟩ := h2.ZbP hi
  refine q2 y σ H (.dat d) Δ M _ _ r' e' (Dt.step st' hy) (jt i d Δ M hd j) fun σ2 H2 Δ2 M2 r2 st2 e2 hb2 => ?_
  refine q3 σ2 H2 Δ2 M2 _ _ r2 e2 hb2 ?_
  have s12 : Step M1 H1 M2 H2 := st'.trans st2
  exact ⟨fun σ' H' Δ' M' a b c d => ⟨Δ', M', a, s12.trans b, c, d⟩, k.rt.step (st.trans s12), fun σ' H' Δ' M' a b c d => k.nx σ' H' Δ' M' a ((st.trans s12).trans b) c d,
   fun σ' H' Δ' M' a b c d => ⟨Δ', M', a, s12.trans b, c, d⟩⟩
 ·rw [h2.length] at j
  exact k.nx σ H Δ M r' (st.trans st') e' (jd Δ M j)
theorem G9 {te : DTE} (he : DE X iter te) (hg : DG X tg g) (hb : DSs X body tb) (hp : PassesOwn (model X.prog X.w) X.A X.env X.xe) (hc : X.calm = true) (hs : autoParam (∀ x, foldedSetIterable iter X.env x = pure x) zz2._auto_1) :
  DS X (.For tg iter body [] pos) (ZbA te g tb) := by
 obtain ⟨t1, p1, q1⟩ := he
 obtain ⟨t2, p2, q2⟩ := hg
 obtain ⟨t3, p3, q3⟩ := hb
 refine ⟨_, CC hp hc (OZ p1) p2 p3 hs, fun σ H Δ M D E r e h k => ?_⟩
 refine q1 σ H Δ M _ _ r e h fun v H1 x M1 r1 st rv hx => ?_
 replace hx := XE hx
 obtain ⟨ds, rfl, J, j0, jt, jd⟩ := hx
 obtain ⟨a, xs, rfl, h1, h2⟩ := rv.tup
 refine ⟨a, rfl, ⟨xs, h1.sq⟩, S2 (xs := xs) (fun i σ H => ∃ Δ M, Z4 X.K M H ∧ Step M1 H1 M H ∧ JY X.K M H σ Δ ∧ J i Δ M) ⟨Δ, M1, r1, Step.refl, e.step st, j0⟩
  (fun i σ H _ ⟨Δ, M, _, st', _, _⟩ => (h1.step st').sq) (fun i y σ H hi ⟨Δ, M, r', st', e', j⟩ => ?_) (fun σ H ⟨Δ, M, r', st', e', j⟩ => ?_)⟩
 ·obtain ⟨d, hd, hy⟩ := h2.ZbP hi
  refine q2 y σ H (.dat d) Δ M _ _ r' e' (Dt.step st' hy) (jt i d Δ M hd j) fun σ2 H2 Δ2 M2 r2 st2 e2 hb2 => ?_
  refine q3 σ2 H2 Δ2 M2 _ _ r2 e2 hb2 ?_
  have s12 : Step M1 H1 M2 H2 := st'.trans st2
  exact ⟨fun σ' H' Δ' M' a b c d => ⟨Δ', M', a, s12.trans b, c, d⟩, k.rt.step (st.trans s12), fun σ' H' Δ' M' a b c d => k.nx σ' H' Δ' M' a ((st.trans s12).trans b) c d,
   fun σ' H' Δ' M' a b c d => ⟨Δ', M', a, s12.trans b, c, d⟩⟩
 ·rw [h2.length] at j
  exact k.nx σ H Δ M r' (st.trans st') e' (jd Δ M j)
noncomputable def WG (g : DTG) (tb : DTS) (D : QL) (lo : Int) (n : Nat) (Δ : DSt) (M : Mp) : Prop :=
 ∃ J : Nat → DSt → Mp → Prop, J 0 Δ M ∧ (∀ i Δ M, i < n → J i Δ M → g (.dat (.int (lo + i))) Δ M fun Δ2 M2 => tb { D with nx := J (i + 1), ct := J (i + 1), bk := D.nx } Δ2 M2) ∧ ∀ Δ M, J n Δ M → D.nx Δ M
theorem Pp {g' : TG} {tb' : TS} {lo : Int} {n : Nat} (q2 : ∀ v σ H x Δ M Φ (Q : L2.St → Hp → Prop), Z4 X.K M H → JY X.K M H σ Δ → QT X.K M H v x → g x Δ M Φ →
  (∀ σ' H' Δ' M', Z4 X.K M' H' → Step M H M' H' → JY X.K M' H' σ' Δ' → Φ Δ' M' → Q σ' H') → g' v σ H Q)
  (q3 : ∀ σ H Δ M D E, Z4 X.K M H → JY X.K M H σ Δ → tb D Δ M → KR X.K M H D E → tb' E σ H) {D : QL} {E : Ends} {σ : L2.St} {H : Hp} {Δ : DSt} {M : Mp} (r : Z4 X.K M H) (e : JY X.K M H σ Δ) (h : WG g tb D lo n Δ M) (k : KR X.K M H D E) :
  ∃ W : Nat → Nat → L2.St → Hp → Prop, (∃ m, W 0 m σ H) ∧ ∀ i m σ H, W i m σ H →
   ((Itr lo n).stop i H ∧ E.nx σ H) ∨ ((Itr lo n).go i H ∧ ∃ N : L2.St → Hp → Prop, (∀ σ' H', N σ' H' → ∃ m', m' < m ∧ W (i + 1) m' σ' H') ∧ ∀ x H', (Itr lo n).yld i H x H' → g' x σ H' fun σ2 H2 => tb' { E with nx := N, ct := N, bk := E.nx } σ2 H2) := by
 obtain ⟨J, j0, jt, jd⟩ := h
 refine Ex (fun i σ' H' => ∃ Δ' M', Z4 X.K M' H' ∧ Step M H M' H' ∧ JY X.K M' H' σ' Δ' ∧ J i Δ' M') ⟨Δ, M, r, Step.refl, e, j0⟩ (fun i σ1 H1 hi ⟨Δ1, M1, r', st', e', j⟩ => ?_) (fun σ1 H1 ⟨Δ1, M1, r', st', e', j⟩ => ?_)
 ·refine q2 _ σ1 H1 (.dat (.int (lo + i))) Δ1 M1 _ _ r' e' (Dt.int _) (jt i Δ1 M1 hi j) fun σ2 H2 Δ2 M2 r2 st2 e2 hb2 => ?_
  refine q3 σ2 H2 Δ2 M2 _ _ r2 e2 hb2 ?_
  have s12 : Step M H M2 H2 := st'.trans st2
  exact ⟨fun σ' H' Δ' M' a b c d => ⟨Δ', M', a, s12.trans b, c, d⟩, k.rt.step s12, fun σ' H' Δ' M' a b c d => k.nx σ' H' Δ' M' a (s12.trans b) c d,
   fun σ' H' Δ' M' a b c d => ⟨Δ', M', a, s12.trans b, c, d⟩⟩
 ·exact k.nx σ1 H1 Δ1 M1 r' st' e' (jd Δ1 M1 j)
noncomputable def InR (j : Int) : Prop := -(2 ^ 62) ≤ j ∧ j < 2 ^ 62
noncomputable def Pg (ta : DTA) (g : DTG) (tb : DTS) : DTS := fun D Δ M => ta Δ M fun xs M1 => on1 xs fun x => onI x fun j => InR j ∧ WG g tb D 0 j.toNat Δ M1
theorem VE {a : Expr} {ta : DTA} {p p2 : Pos} (hg0 : Gl X "range") (hm : X.mg "range" = none) (ha : DA X [a] ta) (hg : DG X tg g) (hb : DSs X body tb) (hp : PassesOwn (model X.prog X.w) X.A X.env X.xe) (hc : X.calm = true)
  (hs : autoParam (starEach [a] X.env = [(false, eval a X.env)]) zz3._auto_1) (hs2 : autoParam (∀ x, foldedSetIterable (.Call (.Name "range" p) [a] [] p2) X.env x = pure x) zz2._auto_1) : DS X (.For tg (.Call (.Name "range" p) [a] [] p2) body [] pos) (Pg ta g tb) := by
 obtain ⟨t1, p1, q1⟩ := ha
 obtain ⟨t2, p2, q2⟩ := hg
 obtain ⟨t3, p3, q3⟩ := hb
 refine ⟨_, CC hp hc (Gw hg0 hm p1 hs) p2 p3 hs2, fun σ H Δ M D E r e h k => ?_⟩
 refine q1 σ H Δ M _ _ r e h fun vs H1 xs M1 r1 st rv hx => ?_
 replace hx := Qa hx
 obtain ⟨x, rfl, hx⟩ := hx
 replace hx := ZO hx
 obtain ⟨j, rfl, ⟨h1, h2⟩, hx⟩ := hx
 obtain ⟨v, rfl, hv⟩ := Paired.one rv
 exact ⟨j, by rw [QT.int hv], h1, h2, Pp q2 q3 r1 (e.step st) hx (k.step st)⟩
noncomputable def Pk (ta : DTA) (g : DTG) (tb : DTS) : DTS := fun D Δ M => ta Δ M fun xs M1 => on2 xs fun x y => onI x fun i => onI y fun j => (InR i ∧ InR j) ∧ WG g tb D i (j - i).toNat Δ M1
end
noncomputable abbrev DSp := List DV → Mp → DK → Prop
noncomputable def lift (K : PySem.W.Frag) (S : DSp) : Sp := fun vs H Q _ => ∃ xs M Φ, Z4 K M H ∧ YR K M H vs xs ∧ S xs M Φ ∧ Rch K M H Φ Q
noncomputable def Zau (S : DSp) (t : DTA) : DTE := fun Δ M Φ => t Δ M fun xs M1 => S xs M1 Φ
section
variable {X : Cx} {CX : CXT} {k : Nat} {f : Addr} {fd : FuncData} {ps : List Str} {S : DSp} {E : XK} {x : Str} {p pos : Pos} {e : Expr} {es : List Expr} {t : DTA}
theorem Zh (F : ZE X.prog X.w X.K X.mg X.base CX k f fd ps (lift X.K S)) (hr : Y8 k X.A) (hg : Gl X x) (hm : X.mg x = some (.ref f)) (hk : PySem.W.keepIn X.K (.ref f) = true) (hb : Binds X.K fd ps []) (hx : Passes CX X E)
  (ha : DA X (e :: es) t) (hdb : autoParam ((x == ("__debug__" : Str)) = false) zz1._auto_1) (he : autoParam (starEach (e :: es) X.env = (false, eval e X.env) :: starEach es X.env) zz3._auto_1) (hpl : autoParam ((backTo pos (starEach es X.env)).any (·.1) = false) zz3._auto_1) :
  DE X (.Call (.Name x p) (e :: es) [] pos) (Zau S t) := by
 obtain ⟨t1, p1, q1⟩ := ha
 refine ⟨_, SH F hr hg hm hk hb .nil hx p1 hdb he hpl, fun σ H Δ M Φ Q r e h k => ?_⟩
 refine q1 σ H Δ M _ _ r e h fun vs H1 xs M1 r1 st rv hx => ?_
 show lift X.K S (vs ++ []) H1 Q E
 rw [List.append_nil]
 exact ⟨xs, M1, Φ, r1, rv, hx, k.step st⟩
end
section
variable {P : Program} {w : World} {K : PySem.W.Frag} {mg : Str → Option Value} {base : Heap}
theorem okD {x qual : Str} {st : Stmt} {f : Addr} {fd : FuncData} {N ps : List Str} {k : Nat} {S : DSp} (F : Fun K x qual st f fd) (Sc : Zt N ps (Zf st)) (len : ∀ xs M Φ, S xs M Φ → xs.length = ps.length)
  (hbody : ∀ (cdv : Value) (A : Around) (outer : List Env) (s : Shared) (H : Hp) (E : XK), Y8 k (A.deeper (envOfC qual (Zf st) s.heap.objs.size f cdv)) →
   ∃ τ, DSs (PB CX0 P w K mg base N qual (Zf st) f cdv A outer s H E).nox (Zq st) τ ∧ ∀ xs M Φ, S xs M Φ → τ { nx := fun _ M' => Φ (.dat .none) M', rt := Φ } (XH N xs) M) : ZE P w K mg base CX0 (k + 1) f fd ps (lift K S) := by
 refine F.ok Sc (fun vs H Q E h => ?_) fun cdv A outer s H vs Q E hr h => ?_
 ·obtain ⟨xs, M, Φ, _, rv, hs, _⟩ := h
  rw [Paired.length rv]
  exact len xs M Φ hs
 ·obtain ⟨xs, M, Φ, r, rv, hs, kk⟩ := h
  obtain ⟨τ, ⟨t, p, q⟩, hτ⟩ := hbody cdv A outer s H E hr
  refine ⟨t, p, q (start N vs) H (XH N xs) M _ _ r (JY.start rv) (hτ xs M Φ hs) ⟨fun σ' H' Δ' M' r' st' e' hn => ?_, kk, fun _ _ _ _ _ _ _ h => h.elim, fun _ _ _ _ _ _ _ h => h.elim⟩⟩
  exact kk.dat r' st' Dt.non hn
end
end DL
namespace DL
open PySem PySem.Spec PyProof.Rows L2
section
variable {X : Cx} {k v : Expr} {pos : Pos}
noncomputable def At (X : Cx) (e : Expr) (τ : DTE) : Prop := ∃ t, PE X e t ∧ ∀ σ H Δ M Φ, JY X.K M H σ Δ → τ Δ M Φ → ∃ v x, QT X.K M H v x ∧ Φ x M ∧ ∀ (H' : Hp) (Q : VK), Q v H' → t σ H' Q
noncomputable def OY : DTE := fun _ M Φ => Φ (.dat (.dict [])) M
theorem Cy : DE X (.Dict [] [] pos) OY := by
 refine ⟨_, MD, fun σ H Δ M Φ Q r e h k p hp => ?_⟩
 exact k _ _ (.dat (.dict [])) M (r.new hp) (Step.new hp) (Dt.dK (kvs := []) (ds := []) (r.tracked hp) Jx .nil) h
noncomputable def Gn (x : DV) (P : Key → Prop) : Prop := match x with | .dat (.int i) => P (.inl i) | .dat (.str s) => P (.inr s) | _ => False
noncomputable def NK : List PyData → Option (List Key)
 | [] => some []
 | .int i :: r => (NK r).map (.inl i :: ·)
 | .str s :: r => (NK r).map (.inr s :: ·)
 | _ :: _ => none
noncomputable def ZdI (ds : List PyData) (P : List Key → Prop) : Prop := match NK ds with | some ks => P ks | none => False
noncomputable def Zb8 (tk tv : DTE) : DTE := fun Δ M Φ => tk Δ M fun x M1 => tv Δ M1 fun y M2 => Gn x fun k => onD y fun d => Φ (.dat (.dict [(kD k, d)])) M2
noncomputable def Zbv (tk tv tk' tv' : DTE) : DTE := fun Δ M Φ => tk Δ M fun x M1 => tv Δ M1 fun y M2 => tk' Δ M2 fun x' M3 => tv' Δ M3 fun y' M4 => Gn x fun k => onD y fun d => Gn x' fun k' => onD y' fun d' => k ≠ k' ∧ Φ (.dat (.dict [(kD k, d), (kD k', d')])) M4
noncomputable def Zgj (a b : Addr) (v : V) (h : Heap) : Prop := ∃ o es n u, h.get? a = some o ∧ o.cls = .type "dict" ∧ o.data = .dict es n ∧ es.toList.map (·.key) = [.ref b] ∧ es.toList.map (·.val) = [u] ∧ RelV v u
noncomputable def RE (tk tv : DTE) : DTE := fun Δ M Φ => tk Δ M fun x M1 => tv Δ M1 fun y M2 => onT x fun ds => ZdI ds fun ks => onD y fun d => Φ (.dat (.dict [(.tuple (ks.map kD), d)])) M2
theorem SqT.new {K : PySem.W.Frag} {H : Hp} {a p : Addr} {xs : List V} {o : HO} (h : SqT K H a xs) (hp : H p = none) : SqT K (upd H p o) a xs := by
 rcases h with (h | ⟨ob, h⟩) | h
 ·exact .inl (.inl (by rw [ZW (ZJ h hp)]; exact h))
 ·exact .inl (.inr ⟨ob, by rw [ZW (ZJ h hp)]; exact h⟩)
 ·exact .inr h
end
end DL
namespace DL
open PySem PySem.Spec PyProof.Rows L2
mutual
noncomputable def cost : PyData → Nat
 | .none => 4
 | .bool _ => 5
 | .int _ => 1921
 | .str x => (reprText x).length
 | .list xs => Xx xs + 2
 | .tuple xs => Xx xs + 3
 | .dict kvs => GC kvs + 2
noncomputable def Xx : List PyData → Nat
 | [] => 0
 | x :: xs => cost x + 2 + Xx xs
noncomputable def GC : List (PyData × PyData) → Nat
 | [] => 0
 | (k, v) :: r => cost k + 2 + cost v + 2 + GC r
end
theorem Ki : ∀ (ts : List Str) (k : Nat) (acc : Str), (textFrom k acc ts).length ≤ acc.length + piled ts
 | [], k, acc => Nat.le_add_right _ _
 | t :: r, k, acc => by
  have h := Ki r (k + 1) (acc ++ (if k > 0 then ", " else "" : String) ++ t)
  have e : (acc ++ (if k > 0 then ", " else "" : String) ++ t).length = acc.length + (if k > 0 then 2 else 0) + t.length := by
   rw [strLen_append, strLen_append]
   split <;> rfl
  have d1 : (if k > 0 then 2 else 0 : Nat) ≤ 2 := by split <;> omega
  rw [e] at h
  rw [piled_cons]
  show (textFrom (k + 1) _ r).length ≤ _
  omega
theorem LD (ts : List Str) : (Str.join ", " ts).length ≤ piled ts := by
 by_cases h : ts = []
 ·subst h; exact Nat.le_of_eq rfl
 ·have := join_length_add ts h
  omega
mutual
theorem Ya : ∀ d : PyData, d.showable = true → d.shown.length ≤ cost d
 | .none, _ => by simp only [PyData.shown, cost]; exact Nat.le_of_eq rfl
 | .bool b, _ => by
  simp only [PyData.shown, cost]
  cases b
  ·exact Nat.le_of_eq rfl
  ·exact (by decide : 4 ≤ 5)
 | .int i, h => by
  simp only [PyData.shown, cost]
  exact int_text_len_1921 (by simpa [PyData.showable] using h)
 | .str x, _ => by simp only [PyData.shown, cost]; exact Nat.le_refl _
 | .list xs, h => by
  have h1 := Vv xs (by simpa [PyData.showable] using h)
  have h2 := Ki (PyData.shownAll xs) 0 "["
  have e1 : ((("[" : String) : Str)).length = 1 := rfl
  have e2 : ((("]" : String) : Str)).length = 1 := rfl
  simp only [PyData.shown, cost]
  unfold listText
  rw [strLen_append, e2]
  rw [e1] at h2
  omega
 | .tuple xs, h => by
  have h1 := Vv xs (by simpa [PyData.showable] using h)
  have h2 := LD (PyData.shownAll xs)
  have e1 : ((("(" : String) : Str)).length = 1 := rfl
  have e3 : (((if (PyData.shownAll xs).length == 1 then ",)" else ")" : String) : Str)).length ≤ 2 := by split <;> decide
  simp only [PyData.shown, cost]
  unfold tupleText
  rw [strLen_append, strLen_append, e1]
  omega
 | .dict kvs, h => by
  have h1 := XJ kvs (by simpa [PyData.showable] using h)
  have h2 := LD (PyData.shownKv kvs)
  have e : (dictText (PyData.shownKv kvs)).length = 1 + (Str.join ", " (PyData.shownKv kvs)).length + 1 := by
   unfold dictText
   rw [strLen_append, strLen_append]; rfl
  simp only [PyData.shown, cost]
  omega
theorem Vv : ∀ xs : List PyData, PyData.showableAll xs = true → piled (PyData.shownAll xs) ≤ Xx xs
 | [], _ => by simp only [PyData.shownAll, Xx]; exact Nat.le_of_eq rfl
 | x :: xs, h => by
  have h' : x.showable = true ∧ PyData.showableAll xs = true := by simpa [PyData.showableAll] using h
  have h1 := Ya x h'.1
  have h2 := Vv xs h'.2
  simp only [PyData.shownAll, Xx]
  rw [piled_cons]
  omega
theorem XJ : ∀ kvs : List (PyData × PyData), PyData.showableKv kvs = true → piled (PyData.shownKv kvs) ≤ GC kvs
 | [], _ => by simp only [PyData.shownKv, GC]; exact Nat.le_of_eq rfl
 | (k, v) :: r, h => by
  have h' : (k.showable = true ∧ v.showable = true) ∧ PyData.showableKv r = true := by simpa [PyData.showableKv] using h
  have h1 := Ya k h'.1.1
  have h2 := Ya v h'.1.2
  have h3 := XJ r h'.2
  have e : ((k.shown ++ ": " ++ v.shown : Str)).length = k.shown.length + 2 + v.shown.length := by rw [strLen_append, strLen_append]; rfl
  simp only [PyData.shownKv, GC]
  rw [piled_cons, e]
  omega
end
theorem Shw.of {d : PyData} (s : d.showable = true) (m : (d.hasDict && Jo d) = false) (dp : d.depth ≤ 64) (z : cost d ≤ 1000000) : Shw d :=
 ⟨s, m, dp, Nat.le_trans (Ya d s) (Nat.le_trans z (by rw [sizeLine_eq]; decide))⟩
structure Own (K : PySem.W.Frag) (mg : Str → Option Value) (x : Str) (st : Stmt) (ps : List Str) (f : Addr) (fd : FuncData) : Prop where
 F : Fun K x x st f fd
 m : mg x = some (.ref f)
 b : Binds K fd ps []
noncomputable def EZ : DSp := fun xs M Φ => ∃ ns : List Int, xs = [.dat (.list (ns.map PyData.int))] ∧ ns.length ≤ 63 ∧ ∀ M', Φ (.dat (.bool true)) M'
theorem HM {K : PySem.W.Frag} {H : Hp} {a : Addr} {ns : List Int} (hl : ns.length ≤ 63) (_ : ZcU H) (hS : SqL K H a (ns.map V.int)) : lift K EZ [.ref a] H (fun v _ => v = .bl true) fun _ _ _ => False := by
 refine ⟨[.dat (.list (ns.map PyData.int))], fun _ => none, fun x _ => x = .dat (.bool true), (show Z4 K (fun _ => none) H from ⟨fun b o e => (by cases e)⟩), Paired.cons (Dt.lst ?_ (Dts.ints ns)) Paired.nil, ⟨ns, rfl, hl, fun _ => rfl⟩, fun v H' x M' _ _ rv hx => ?_⟩
 ·rcases hS with h | h
  ·exact .inl ⟨rfl, h⟩
  ·exact .inr h
 ·subst hx
  exact rv.bool
end DL
namespace DL
open PySem PySem.Spec PyProof.Rows L2
theorem Hx {α : Type} {l : List α} {i : Int} (h0 : 0 ≤ i) (h1 : i < l.length) : ∃ d, atI l i = some d ∧ d ∈ l := by
 have hl : i.toNat < l.length := by omega
 refine ⟨l[i.toNat], ?_, List.getElem_mem hl⟩
 have q : atI l ((i.toNat : Nat) : Int) = some l[i.toNat] := Vl (by simp [hl])
 rw [show ((i.toNat : Nat) : Int) = i by omega] at q
 exact q
theorem Zbw : ixN 3 0 = some 0 := rfl
theorem Za0 : ixN 3 1 = some 1 := rfl
theorem Tv : ixN 3 2 = some 2 := rfl
theorem Sf {ns : List Int} {j : Int} (h0 : 0 ≤ j) (h1 : j < ns.length) : ∃ c : Int, atI (ns.map PyData.int) j = some (.int c) := by
 obtain ⟨d, e, hm⟩ := Hx (l := ns.map PyData.int) h0 (by rw [List.length_map]; exact h1)
 obtain ⟨c, _, rfl⟩ := List.mem_map.mp hm
 exact ⟨c, e⟩
theorem Ef (x : Int) {m : Int} (h : 0 < m) : 0 ≤ x % m ∧ x % m < m := ⟨Int.emod_nonneg _ (by omega), Int.emod_lt_of_pos _ h⟩
noncomputable def sp1 (f : PyData → Bool) : DSp := fun xs M Φ => ∃ d, xs = [.dat d] ∧ Φ (.dat (.bool (f d))) M
theorem RG (k : Int) (h : 0 ≤ k ∧ k ≤ 1000000) : T4 10 k := ⟨h.1, h.2, by decide⟩
theorem YV {M : Mp} {a : Addr} {o : OO} (h : M a = none) : K6 (Z3 M a o) a = M := by
 funext b
 unfold K6 Z3
 split
 ·rename_i e; rw [e, h]
 ·rfl
theorem Zl {p : Prop} [Decidable p] {A B : Prop} (h1 : p → A) (h2 : ¬ p → B) : if decide p = true then A else B := by
 by_cases h : p
 ·rw [decide_eq_true h, if_pos rfl]; exact h1 h
 ·rw [decide_eq_false h, if_neg Bool.false_ne_true]; exact h2 h
end DL
namespace DL
open PySem PySem.Spec PyProof.Rows L2
noncomputable def LL (env : Env) : List (Str × NameKind) → List (Str × Addr) → List (Str × Addr)
 | [], cs => cs
 | (n, k) :: r, cs => LL env r (if (k == NameKind.free) = true then (n, (env.cells.lookup n).getD 0) :: cs else cs)
theorem Wr {env : Env} (f : Str × NameKind → List (Str × Addr) → Sem (ForInStep (List (Str × Addr)))) : ∀ (l : List (Str × NameKind)) (cs : List (Str × Addr)),
  (∀ y ∈ l, ∀ cs, f y cs = pure (.yield (if (y.2 == NameKind.free) = true then (y.1, (env.cells.lookup y.1).getD 0) :: cs else cs))) → forIn l cs f = pure (LL env l cs)
 | [], cs, _ => by rw [List.forIn_nil]; rfl
 | (n, k) :: r, cs, h => by
  rw [List.forIn_cons, h _ List.mem_cons_self, pure_bind]
  exact Wr f r _ fun y hy => h y (List.mem_cons_of_mem _ hy)
theorem KP {scope : Scope} {env : Env} (h : ∀ y ∈ scope.names, y.2 = .free → ∃ c, env.cells.lookup y.1 = some c) : closureFor scope env = pure (LL env scope.names []) := by
 simp only [closureFor]
 rw [Wr (env := env) _ scope.names [] (fun y hy cs => by
  obtain ⟨n, k⟩ := y
  by_cases hk : k = .free
  ·subst hk
   obtain ⟨c, e⟩ := h _ hy rfl
   have e' : env.cells.lookup n = some c := e
   simp only [beq_self_eq_true, if_true, cellOf, e', Option.getD_some, pure_bind]
  ·have : (k == NameKind.free) = false := by simpa using hk
   simp only [this, Bool.false_eq_true, if_false])]
 rfl
theorem CJ {env : Env} : ∀ {l : List (Str × NameKind)} {cs : List (Str × Addr)} {x : Str} {c : Addr}, (x, c) ∈ LL env l cs → (x, c) ∈ cs ∨ ((x, NameKind.free) ∈ l ∧ c = (env.cells.lookup x).getD 0)
 | [], _, _, _, h => .inl h
 | (n, k) :: r, cs, x, c, h => by
  rcases CJ (l := r) h with h | ⟨h1, h2⟩
  ·by_cases hk : k = .free
   ·subst hk
    rw [if_pos (by simp)] at h
    rcases List.mem_cons.mp h with h | h
    ·cases h
     exact .inr ⟨List.mem_cons_self, rfl⟩
    ·exact .inl h
   ·have : (k == NameKind.free) = false := by simpa using hk
    rw [if_neg (by rw [this]; exact Bool.false_ne_true)] at h
    exact .inl h
  ·exact .inr ⟨List.mem_cons_of_mem _ h1, h2⟩
theorem C3 {env : Env} : ∀ {l : List (Str × NameKind)} {cs : List (Str × Addr)} {x : Str}, ((x, NameKind.free) ∈ l ∨ ∃ c, (x, c) ∈ cs) → ∃ c, (x, c) ∈ LL env l cs
 | [], _, _, h => h.elim (fun z => nomatch z) id
 | (n, k) :: r, cs, x, h => by
  refine C3 (l := r) ?_
  rcases h with h | ⟨c, h⟩
  ·rcases List.mem_cons.mp h with h | h
   ·cases h
    exact .inr ⟨_, by rw [if_pos (by simp)]; exact List.mem_cons_self⟩
   ·exact .inl h
  ·refine .inr ⟨c, ?_⟩
   split
   ·exact List.mem_cons_of_mem _ h
   ·exact h
theorem Kj {β : Type} : ∀ {l : List (Str × β)} {x : Str} {c : β}, (x, c) ∈ l → ∃ c', l.lookup x = some c'
 | [], _, _, h => nomatch h
 | (n, d) :: r, x, c, h => by
  rw [List.lookup_cons]
  cases e : x == n with
  | true => exact ⟨d, rfl⟩
  | false =>
   rcases List.mem_cons.mp h with h | h
   ·cases h
    simp at e
   ·exact Kj h
theorem Ja {env : Env} {names : List (Str × NameKind)} (hf : ∀ y ∈ names, y.2 = .free → ∃ c, env.cells.lookup y.1 = some c) {x : Str} {c : Addr} (h : (LL env names []).lookup x = some c) :
  env.cells.lookup x = some c ∧ (x, NameKind.free) ∈ names := by
 rcases CJ (PySem.mem_of_lookup h) with h | ⟨h1, h2⟩
 ·exact nomatch h
 ·obtain ⟨c', e⟩ := hf _ h1 rfl
  have e' : env.cells.lookup x = some c' := e
  rw [e', Option.getD_some] at h2
  subst h2
  exact ⟨e', h1⟩
theorem CA {env : Env} {names : List (Str × NameKind)} (hf : ∀ y ∈ names, y.2 = .free → ∃ c, env.cells.lookup y.1 = some c) {x : Str} (h : (x, NameKind.free) ∈ names) : ∃ c, (LL env names []).lookup x = some c ∧ env.cells.lookup x = some c := by
 obtain ⟨c, hm⟩ := C3 (env := env) (cs := []) (.inl h)
 obtain ⟨c', e⟩ := Kj hm
 exact ⟨c', e, (Ja hf e).1⟩
noncomputable def Z2 (X : Cx) (scope : Scope) (C : Addr) (N : List Str) (ex : List Addr) (s : Shared) (H : Hp) : Cx :=
 { X with N := N, s₀ := s, H₀ := H, env := compEnvC scope (LL X.env scope.names []) C X.env, outer := X.stack, ex := ex, fn := fun _ => false, pn := [], xe := fun _ _ => False }
noncomputable def V0 (ix : List (Option Nat)) (σ : L2.St) : L2.St := ix.map fun o => o.bind fun i => (σ[i]?).join
noncomputable def Eu (ix : List (Option Nat)) (Δ : DSt) : DSt := ix.map fun o => o.bind fun i => (Δ[i]?).join
structure YL (X : Cx) (scope : Scope) (N : List Str) (ix : List (Option Nat)) : Prop where
 kind : scope.kind = .function
 cellF : ∀ y ∈ scope.names, y.2 ≠ .cell
 names : ∀ y ∈ scope.names, y.2 = .local → scope.names.lookup y.1 = some .local
 free : ∀ y ∈ scope.names, y.2 = .free → X.env.kindOf y.1 = some .cell
 len : N.length = ix.length
 cap : ∀ (j : Nat) (x : Str) (i : Nat), N[j]? = some x → ix[j]? = some (some i) → X.N[i]? = some x ∧ (x, NameKind.free) ∈ scope.names ∧ (relabel scope X.env).names.lookup x = some .cell
theorem HQ {ix : List (Option Nat)} {σ : L2.St} {j : Nat} {v : V} (h : (V0 ix σ)[j]? = some (some v)) : ∃ i, ix[j]? = some (some i) ∧ σ[i]? = some (some v) := by
 unfold V0 at h
 rw [List.getElem?_map] at h
 cases e : ix[j]? with
 | none => rw [e] at h; cases h
 | some o =>
  rw [e] at h
  cases o with
  | none => simp at h
  | some i =>
   refine ⟨i, rfl, ?_⟩
   have h' : (σ[i]?).join = some v := by simpa using h
   cases q : σ[i]? with
   | none => rw [q] at h'; cases h'
   | some o' => rw [q] at h'; exact congrArg some h'
theorem JY.cap {K : PySem.W.Frag} {M : Mp} {H : Hp} {σ : L2.St} {Δ : DSt} (h : JY K M H σ Δ) (ix : List (Option Nat)) : JY K M H (V0 ix σ) (Eu ix Δ) := by
 refine ⟨by unfold V0 Eu; rw [List.length_map, List.length_map], fun j x e => ?_⟩
 unfold Eu at e
 rw [List.getElem?_map] at e
 cases q : ix[j]? with
 | none => rw [q] at e; cases e
 | some o =>
  rw [q] at e
  cases o with
  | none => simp at e
  | some i =>
   have e' : (Δ[i]?).join = some x := by simpa using e
   have e2 : Δ[i]? = some (some x) := by
    cases q2 : Δ[i]? with
    | none => rw [q2] at e'; cases e'
    | some o' => rw [q2] at e'; exact congrArg some e'
   obtain ⟨v, hv, rv⟩ := h.at' i x e2
   refine ⟨v, ?_, rv⟩
   unfold V0
   rw [List.getElem?_map, q]
   simp [hv]
section
variable {X : Cx} {pins : List (Addr × Obj)} {σ : L2.St} {H2 : Hp} {s2 : Shared} {scope : Scope} {N : List Str} {ix : List (Option Nat)} {C : Addr} {fp : List Addr}
theorem Zct (ok : YL X scope N ix) (I2 : Inv X pins σ H2 s2) : ∀ y ∈ scope.names, y.2 = .free → ∃ c, X.env.cells.lookup y.1 = some c := fun y hy hk => I2.ok.has y.1 (.inl (ok.free y hy hk))
theorem En (ok : YL X scope N ix) (I2 : Inv X pins σ H2 s2) (f2 : ∀ b ∈ fp, Lb X pins H2 b) (ex : ∀ b ∈ fp, ∃ o, s2.heap.get? b = some o) (hC : s2.heap.objs.size ≤ C) : (Z2 X scope C N fp s2 H2).Ok := by
 have hf := Zct ok I2
 refine ⟨I2.ok.mod, ok.kind, I2.ok.glob, I2.ok.blt, hC, fun x y c h1 h2 => I2.ok.inj x y c (Ja hf h1).1 (Ja hf h2).1, fun x hx => ?_, fun x c h => absurd h Bool.false_ne_true, I2.ok.hd, I2.ok.frames, .inl rfl, fun b hb => ?_, fun b o e => I2.bs b o e, Nat.le_trans I2.ok.bsz I2.sz,
  fun b o e hb => ?_, fun b hb z => ?_, I2.stack, I2.Ld⟩
 ·have hx' : (relabel scope X.env).names.lookup x = some .cell ∨ (relabel scope X.env).names.lookup x = some .free := hx
  have key : (x, NameKind.free) ∈ scope.names := by
   have go : ∀ k', (relabel scope X.env).names.lookup x = some k' → (k' = .cell ∨ k' = .free) → (x, NameKind.free) ∈ scope.names := fun k' e hk => by
    have hm := PySem.mem_of_lookup e
    obtain ⟨⟨n, k⟩, hn, q⟩ := List.mem_map.mp hm
    by_cases hr : (k == NameKind.free && X.env.scope.kind == .function && X.env.kindOf n == some .cell) = true
    ·have q' : (n, NameKind.cell) = (x, k') := by rw [← q]; simp [hr]
     cases q'
     have : k = .free := by simp only [Bool.and_eq_true] at hr; simpa using hr.1.1
     subst this
     exact hn
    ·have q' : (n, k) = (x, k') := by rw [← q]; simp [hr]
     cases q'
     rcases hk with rfl | rfl
     ·exact absurd rfl (ok.cellF _ hn)
     ·exact hn
   rcases hx' with h | h
   ·exact go _ h (.inl rfl)
   ·exact go _ h (.inr rfl)
  obtain ⟨c, h1, _⟩ := CA hf key
  exact ⟨c, h1⟩
 ·obtain ⟨o, e⟩ := ex b hb
  exact ⟨Nat.ne_of_lt (Nat.lt_of_lt_of_le (Heap.lt_size e) hC), fun x c h => (f2 b hb).2.2.2.2.1 x c (Ja hf h).1⟩
 ·rcases (f2 b hb).2.2.2.1 with z | z
  ·exact I2.ok.noex b o e z
  ·exact absurd (Nat.lt_of_lt_of_le (Heap.lt_size e) (Nat.le_trans I2.ok.bsz z)) (Nat.lt_irrefl _)
 ·rcases List.mem_cons.mp (I2.FH b z) with z | z
  ·exact (f2 b hb).2.1 z
  ·exact (f2 b hb).2.2.1 z
theorem CW (ok : YL X scope N ix) (I2 : Inv X pins σ H2 s2) (f2 : ∀ b ∈ fp, Lb X pins H2 b) {s : Shared} {H : Hp} {m : Str → Option Value} (u : Un (frs X.stack) fp H2 H s2.heap s.heap) :
  ∀ (i : Nat) (x : Str) (v : V), N[i]? = some x → (V0 ix σ)[i]? = some (some v) → ∃ w, RelV v w ∧ Look (Z2 X scope C N fp s2 H2).env s.heap m x w := fun j x v hN hv => by
 obtain ⟨i, hi, hs⟩ := HQ hv
 obtain ⟨hx, hm, hr⟩ := ok.cap j x i hN hi
 have hk : X.env.kindOf x = some .cell := ok.free _ hm rfl
 obtain ⟨m0, _, hl⟩ := I2.loc
 obtain ⟨w, r, l⟩ := hl i x v hx hs (.inr (.inl hk))
 refine ⟨w, r, .inr ⟨.inl hr, ?_⟩⟩
 rcases l with ⟨z, _⟩ | ⟨_, c, e, hc⟩
 ·rw [hk] at z; cases z
 ·obtain ⟨c', h1, h2⟩ := CA (Zct ok I2) hm
  rw [e] at h2
  cases h2
  refine ⟨c, h1, ?_⟩
  obtain ⟨o, ho, hd⟩ := hc
  obtain ⟨sl, q⟩ := u.any ho (I2.freeC x c e) fun z => (f2 c z).2.2.2.2.1 x c e rfl
  exact ⟨_, q, hd⟩
end
end DL
namespace DL
open PySem PySem.Spec PyProof.Rows L2
section
variable {prog : Program} {w : World} {A : Around} {R : Result → Shared → Prop} {s : Shared}
theorem Ge {elt target iter : Expr} {ifs : List Expr} {scope : Scope} {pos : Pos} {it acc : Value} {env : Env} (I : Nat → Shared → Prop)
  (turn : ∀ n s, I n s → wpAny (model prog w) A (pyNext it) (fun r s₁ => match r with
   | none => R (.ok .next) s₁
   | some v => wpAny (model prog w) A (letOwnedTupleGo target it v) (fun _ s₁' => wpAny (model prog w) A (assign target env v) (fun _ s₂ =>
     wpAny (model prog w) A (forIn ifs true fun c r => if r = true then do let ok ← isTrue c env (eval c env); pure (ForInStep.yield ok) else pure (ForInStep.yield r)) (fun ok s₃ =>
      if ok = true then wpAny (model prog w) A (eval elt env) (fun x s₄ =>
       wpAny (model prog w) A (call (.builtin "list.append") [acc, x]) (fun _ s₅ => ∃ m, m < n ∧ I m s₅) (fun _ _ => False) s₄) (fun _ _ => False) s₃
      else ∃ m, m < n ∧ I m s₃) (fun _ _ => False) s₂) (fun _ _ => False) s₁') (fun _ _ => False) s₁) (fun _ _ => False) s)
  (n : Nat) (h : I n s) : codeAny (model prog w) A (.compLoop (.ListComp elt [⟨target, iter, ifs, 0⟩] scope pos) 0 it acc env) R s := by
 refine codeAny_loop rfl I (fun n s hI => ?_) n h
 show wpAny _ A ((compTurn (.ListComp elt [⟨target, iter, ifs, 0⟩] scope pos) 0 it acc env).onRaise (fun x => do noteFrame x env; theTreesLotGoes x)) _ _ s
 refine wpAny_noted ?_
 rw [compTurn_list]
 refine wpAny_bind (wpAny_standAt (wpAny_bind (wpAny_mono (turn n s hI) (fun r s₁ h₁ => ?_) fun _ _ h' => h'.elim)))
 cases r with
 | none => exact wpAny_pure h₁
 | some v =>
  refine wpAny_bind (wpAny_mono h₁ (fun _ s₁' h₁' => ?_) fun _ _ h' => h'.elim)
  refine wpAny_bind (wpAny_mono h₁' (fun _ s₂ h₂ => wpAny_bind (wpAny_mono h₂ (fun ok s₃ h₃ => ?_) fun _ _ h' => h'.elim)) fun _ _ h' => h'.elim)
  cases ok with
  | false => exact wpAny_pure ⟨rfl, h₃⟩
  | true =>
   exact wpAny_bind (wpAny_bind (wpAny_mono h₃ (fun x s₄ h₄ => wpAny_bind (wpAny_mono h₄ (fun _ s₅ h₅ => wpAny_pure (wpAny_pure ⟨rfl, h₅⟩)) fun _ _ h' => h'.elim)) fun _ _ h' => h'.elim))
end
noncomputable def Yl (K : PySem.W.Frag) (J : It) (ds : List PyData) (M : Mp) (H : Hp) : Prop := ∀ M2 H2, Step M H M2 H2 → ∀ i,
 (i < ds.length → J.go i H2 ∧ ∀ x H', J.yld i H2 x H' → Z4 K M2 H2 → Z4 K M2 H' ∧ Step M2 H2 M2 H' ∧ ∃ d, ds[i]? = some d ∧ Dt K M2 H' x d) ∧ (ds.length ≤ i → J.stop i H2)
noncomputable abbrev Wx := DSt → Mp → (List PyData → Mp → Prop) → Prop
noncomputable def DI (X : Cx) (tg iter : Expr) (src : Wx) : Prop := ∃ wi, PI X tg iter wi ∧ ∀ σ H Δ M Ψ (R : It → Hp → Prop), Z4 X.K M H → JY X.K M H σ Δ → src Δ M Ψ →
 (∀ J H' M' ds, Z4 X.K M' H' → Step M H M' H' → Yl X.K J ds M' H' → Ψ ds M' → R J H') → wi σ H R
section
variable {X : Cx} {tg iter : Expr}
noncomputable def ZeD (te : DTE) : Wx := fun Δ M Ψ => te Δ M fun x M1 => onL x fun ds => Ψ ds M1
noncomputable def ZeB (te : DTE) : Wx := fun Δ M Ψ => te Δ M fun x M1 => onT x fun ds => Ψ ds M1
theorem Yq {te : DTE} (he : DE X iter te) : DI X tg iter (ZeD te) := by
 obtain ⟨t, p, q⟩ := he
 refine ⟨_, HB p, fun σ H Δ M Ψ R dr er h k => ?_⟩
 refine q σ H Δ M _ _ dr er h fun v H1 x M1 r1 st rv hx => ?_
 replace hx := EI hx
 obtain ⟨ds, rfl, hΨ⟩ := hx
 obtain ⟨a, xs, rfl, h1, h2⟩ := rv.lst
 refine ⟨a, rfl, ⟨xs, h1.sq⟩, k _ H1 M1 ds r1 st (fun M2 H2 st2 i => ⟨fun hi => ?_, fun hi => ?_⟩) hΨ⟩
 ·have hx : i < xs.length := by rw [h2.length]; exact hi
  refine ⟨⟨xs, xs[i], (h1.step st2).sq, by simp [hx]⟩, fun x H' y => ?_⟩
  obtain ⟨e, y⟩ := y
  obtain ⟨d, hd, hy⟩ := (h2.step st2).ZbP (y xs (h1.step st2).sq)
  subst e
  exact fun r => ⟨r, Step.refl, d, hd, hy⟩
 ·exact ⟨xs, (h1.step st2).sq, by rw [h2.length]; exact hi⟩
theorem X9 {te : DTE} (he : DE X iter te) : DI X tg iter (ZeB te) := by
 obtain ⟨t, p, q⟩ := he
 refine ⟨_, OZ p, fun σ H Δ M Ψ R dr er h k => ?_⟩
 refine q σ H Δ M _ _ dr er h fun v H1 x M1 r1 st rv hx => ?_
 replace hx := XE hx
 obtain ⟨ds, rfl, hΨ⟩ := hx
 obtain ⟨a, xs, rfl, h1, h2⟩ := rv.tup
 refine ⟨a, rfl, ⟨xs, h1.sq⟩, k _ H1 M1 ds r1 st (fun M2 H2 st2 i => ⟨fun hi => ?_, fun hi => ?_⟩) hΨ⟩
 ·have hx : i < xs.length := by rw [h2.length]; exact hi
  refine ⟨⟨xs, xs[i], (h1.step st2).sq, by simp [hx]⟩, fun x H' y => ?_⟩
  obtain ⟨e, y⟩ := y
  obtain ⟨d, hd, hy⟩ := (h2.step st2).ZbP (y xs (h1.step st2).sq)
  subst e
  exact fun r => ⟨r, Step.refl, d, hd, hy⟩
 ·exact ⟨xs, (h1.step st2).sq, by rw [h2.length]; exact hi⟩
noncomputable def Wo (lo : Int) (n : Nat) : List PyData := (List.range n).map fun (i : Nat) => PyData.int (lo + (i : Int))
theorem CU (lo : Int) (n : Nat) : (Wo lo n).length = n := by unfold Wo; rw [List.length_map, List.length_range]
theorem Ct {lo : Int} {n i : Nat} (h : i < n) : (Wo lo n)[i]? = some (.int (lo + (i : Int))) := by
 unfold Wo
 rw [List.getElem?_map, List.getElem?_range h]
 rfl
theorem Ow {K : PySem.W.Frag} {M : Mp} {H : Hp} (lo : Int) (n : Nat) : Yl K (Itr lo n) (Wo lo n) M H := fun M2 H2 st2 i => by
 rw [CU]
 refine ⟨fun hi => ⟨hi, fun x H' y => ?_⟩, fun hi => hi⟩
 obtain ⟨e, y⟩ := y
 subst y e
 exact fun r => ⟨r, Step.refl, _, Ct hi, Dt.int _⟩
noncomputable def Zbd (ta : DTA) : Wx := fun Δ M Ψ => ta Δ M fun xs M1 => on1 xs fun x => onI x fun j => InR j ∧ Ψ (Wo 0 j.toNat) M1
theorem KG {a : Expr} {ta : DTA} {p p2 : Pos} (hg0 : Gl X "range") (hm : X.mg "range" = none) (ha : DA X [a] ta) (hs : autoParam (starEach [a] X.env = [(false, eval a X.env)]) zz3._auto_1) : DI X tg (.Call (.Name "range" p) [a] [] p2) (Zbd ta) := by
 obtain ⟨t1, p1, q1⟩ := ha
 refine ⟨_, Gw hg0 hm p1 hs, fun σ H Δ M Ψ R dr er h k => ?_⟩
 refine q1 σ H Δ M _ _ dr er h fun vs H1 xs M1 r1 st rv hx => ?_
 replace hx := Qa hx
 obtain ⟨x, rfl, hx⟩ := hx
 replace hx := ZO hx
 obtain ⟨j, rfl, ⟨h1, h2⟩, hΨ⟩ := hx
 obtain ⟨v, rfl, hv⟩ := Paired.one rv
 exact ⟨j, by rw [QT.int hv], h1, h2, k _ H1 M1 _ r1 st (Ow 0 j.toNat) hΨ⟩
noncomputable def Zed (ta : DTA) : Wx := fun Δ M Ψ => ta Δ M fun xs M1 => on2 xs fun x y => onI x fun i => onI y fun j => (InR i ∧ InR j) ∧ Ψ (Wo i (j - i).toNat) M1
end
noncomputable def Dk (ow : Bool) (Φ : DK) (acc : List PyData) (M : Mp) : Prop := match ow with | true => ∀ p, M p = none → Φ (.own p) (Z3 M p (.lst acc)) | false => Φ (.dat (.list acc)) M
noncomputable def OB (ow : Bool) (src : Wx) (ix : List (Option Nat)) (g : DTG) (tc : DTT) (te : DTE) : DTE := fun Δ M Φ => src Δ M fun ds M1 => ds.length ≤ sizeLine ∧ ∃ J : Nat → List PyData → Mp → Prop, J 0 [] M1 ∧
 (∀ i d acc M', ds[i]? = some d → J i acc M' → g (.dat d) (Eu ix Δ) M' fun Δ2 M2 => tc Δ2 M2 fun b M3 => if b = true then te Δ2 M3 fun y M4 => onD y fun e => J (i + 1) (acc ++ [e]) M4 else J (i + 1) acc M3) ∧
 ∀ acc M', J ds.length acc M' → Dk ow Φ acc M'
noncomputable def DTs (X : Cx) (ifs : List Expr) (τ : DTT) : Prop := ∀ (pins : List (Addr × Obj)) (s : Shared) (σ : L2.St) (H : Hp) (Δ : DSt) (M : Mp) (Φ : Bool → Mp → Prop), L2.Inv X pins σ H s → Z4 X.K M H → JY X.K M H σ Δ → τ Δ M Φ →
 wpAny (model X.prog X.w) X.A (forIn ifs true fun c r => if r = true then do let ok ← isTrue c X.env (eval c X.env); pure (ForInStep.yield ok) else pure (ForInStep.yield r))
  (fun b s' => ∃ H' M', L2.Inv X pins σ H' s' ∧ Z4 X.K M' H' ∧ Step M H M' H' ∧ Φ b M') X.xe s
noncomputable def ZeU : DTT := fun _ M Φ => Φ true M
theorem Q1 {X : Cx} : DTs X [] ZeU := fun pins s σ H Δ M Φ I dr er h => wpAny_tests_nil ⟨H, M, I, dr, Step.refl, h⟩
theorem BZ {X : Cx} {c : Expr} {τ : DTT} (hc : DT X c τ) : DTs X [c] τ := fun pins s σ H Δ M Φ I dr er h => by
 obtain ⟨t, p, q⟩ := hc
 refine wpAny_tests_one (thn (p pins s σ H (fun b H' => ∃ M', Z4 X.K M' H' ∧ Step M H M' H' ∧ Φ b M') I (q σ H Δ M Φ _ dr er h fun b H' M' a c d => ⟨M', a, c, d⟩)) fun b s' h => ?_)
 obtain ⟨H', I', M', a, c, d⟩ := h
 exact ⟨H', M', I', a, c, d⟩
end DL
namespace DL
open PySem PySem.Spec PyProof.Rows L2
section
variable {X : Cx}
noncomputable abbrev CompSrc (ds : List PyData) (M1 : Mp) (Δ : DSt) (ix : List (Option Nat)) (g : DTG) (tc : DTT) (te : DTE) (ψ : List PyData → Mp → Prop) : Prop := ds.length ≤ sizeLine ∧ ∃ J : Nat → List PyData → Mp → Prop, J 0 [] M1 ∧
 (∀ i d acc M', ds[i]? = some d → J i acc M' → g (.dat d) (Eu ix Δ) M' fun Δ2 M2 => tc Δ2 M2 fun b M3 => if b = true then te Δ2 M3 fun y M4 => onD y fun e => J (i + 1) (acc ++ [e]) M4 else J (i + 1) acc M3) ∧ ∀ acc M', J ds.length acc M' → ψ acc M'
set_option maxHeartbeats 2000000 in
theorem Gj {elt tg iter : Expr} {ifs : List Expr} {scope : Scope} {pos ps : Pos} {src : Wx} {N : List Str} {ix : List (Option Nat)} {g : DTG} {tc : DTT} {te : DTE} {use : Option (Value → Sem Unit)} {QQ : Value → Shared → Prop} {ψ : List PyData → Mp → Prop} (ok : YL X scope N ix) (hi : DI X tg iter src)
  (hg : ∀ C ex s H, DG (Z2 X scope C N ex s H) tg g) (ht : ∀ C ex s H, DTs (Z2 X scope C N ex s H) ifs tc) (he : ∀ C ex s H, DE (Z2 X scope C N ex s H) elt te) (hc : X.calm = true)
  (hs : ∀ x, foldedSetIterable iter X.env x = pure x) {σ : L2.St} {H : Hp} {Δ : DSt} {M : Mp} {pins : List (Addr × Obj)} {s : Shared} (dr : Z4 X.K M H) (er : JY X.K M H σ Δ) (h : src Δ M fun ds M1 => CompSrc ds M1 Δ ix g tc te ψ) (I : L2.Inv X pins σ H s)
  (hfin : ∀ (s4 : Shared) (C D : Addr) (H' : Hp) (M' : Mp) (vs : List V) (acc : List PyData), L2.Inv X pins σ (upd H' D (.lst vs)) s4 → H' D = none → Z4 X.K M' H' → Step M H M' H' → Dts X.K M' H' vs acc → ψ acc M' → (∃ m, s4.heap.Ns C m) → Lb X pins (upd H' D (.lst vs)) C →
   compPost (model X.prog X.w) X.A X.xe use QQ (.ref D) C (.ok .next) s4) :
  wpAny (model X.prog X.w) X.A (comprehension (.ListComp elt [⟨tg, iter, ifs, 0⟩] scope pos) scope X.env ps (newList []) false (eval iter X.env) use) QQ X.xe s := by
 obtain ⟨wi, pi, qi⟩ := hi
 refine wpAny_comprehension_free (use := use) (cl := LL X.env scope.names []) rfl hs (KP (Zct ok I)) ok.kind ok.names ?_
 show wpAny _ _ (eval iter X.env) _ _ s
 refine thn (pi pins s σ H (fun J H' => ∃ M' ds, Z4 X.K M' H' ∧ Step M H M' H' ∧ Yl X.K J ds M' H' ∧ ds.length ≤ sizeLine ∧ ∃ W : Nat → List PyData → Mp → Prop, W 0 [] M' ∧
   (∀ i d acc M', ds[i]? = some d → W i acc M' → g (.dat d) (Eu ix Δ) M' fun Δ2 M2 => tc Δ2 M2 fun b M3 => if b = true then te Δ2 M3 fun y M4 => onD y fun e => W (i + 1) (acc ++ [e]) M4 else W (i + 1) acc M3) ∧
   ∀ acc M', W ds.length acc M' → ψ acc M') I (qi σ H Δ M _ _ dr er h fun J H' M' ds a b c d => ⟨M', ds, a, b, c, d⟩)) fun x s1 h1 => thn h1 fun itv s2 h2 => ?_
 obtain ⟨it, fp, tn, J, H2, e, I2, T, st2, f2, M1, ds, dr1, stp, yl, hz, W, w0, wt, wd⟩ := h2
 subst e
 have exo : ∀ b ∈ fp, ∃ o, s2.heap.get? b = some o := fun b hb => let ⟨o, q, _⟩ := T.obj 0 _ st2 b hb; ⟨o, q⟩
 refine wpAny_newObj_type (wpAny_newFunctionEnv ok.cellF (by intro y hy; simp at hy) (fun h₁ hns₁ hsb₁ => ?_) ok.kind)
 dsimp only at hns₁ hsb₁ ⊢
 generalize hH2 : s2.heap.push { cls := .type "list", dict := none, data := .seq ([] : List Value).toArray } = HH at hns₁ hsb₁ ⊢
 have hC : HH.objs.size = s2.heap.objs.size + 1 := by rw [← hH2, Heap.size_push]
 have hDC : s2.heap.objs.size ≠ HH.objs.size := by rw [hC]; exact Nat.ne_of_lt (Nat.lt_succ_self _)
 have hCle : s2.heap.objs.size ≤ HH.objs.size := by rw [hC]; exact Nat.le_succ _
 have below : ∀ b, b < s2.heap.objs.size → b ≠ HH.objs.size ∧ b ≠ s2.heap.objs.size := fun b hb => ⟨by rw [hC]; exact Nat.ne_of_lt (Nat.lt_succ_of_lt hb), Nat.ne_of_lt hb⟩
 have old : ∀ b o, s2.heap.get? b = some o → h₁.get? b = some o := fun b o e => hsb₁.extBut b o (below b (Heap.lt_size e)).1 (Heap.get?_push_of_some _ (hH2 ▸ Heap.get?_push_of_some _ e))
 have hacc : h₁.get? s2.heap.objs.size = some { cls := .type "list", data := .seq ([] : List Value).toArray } := hsb₁.extBut _ _ hDC (Heap.get?_push_of_some _ (hH2 ▸ Heap.get?_push_size _ rfl))
 generalize hCC : HH.objs.size = C at *
 generalize hDD : s2.heap.objs.size = D at hDC hacc below hCle
 have hDs : s2.heap.objs.size ≤ D := Nat.le_of_eq hDD
 have hCs : s2.heap.objs.size ≤ C := by rw [hDD]; exact hCle
 have fD : ∀ b ∈ fp, b ≠ D ∧ b ≠ C := fun b hb => by
  obtain ⟨o, q⟩ := exo b hb
  exact ⟨(below b (by rw [← hDD]; exact Heap.lt_size q)).2, (below b (by rw [← hDD]; exact Heap.lt_size q)).1⟩
 have okY : (Z2 X scope C N fp s2 H2).Ok := En ok I2 f2 exo hCs
 have fsD : ∀ b ∈ frs X.stack, b < s2.heap.objs.size := fun b hb => by
  obtain ⟨_, o, ho, _⟩ := I2.stack.mem hb
  exact Heap.lt_size ho
 have cellD : ∀ x c, (Z2 X scope C N fp s2 H2).env.cells.lookup x = some c → c < s2.heap.objs.size ∧ H2 c = none := fun x c e => by
  have e' := (Ja (Zct ok I2) e).1
  obtain ⟨v, q⟩ := I2.cell x c e'
  exact ⟨q.lt, I2.freeC x c e'⟩
 have fpY : ∀ {H' : Hp} {ps : List (Addr × Obj)}, (∀ b ∈ fp, H' b = none) → (∀ p ∈ ps, p.1 = D) → ∀ b ∈ fp, Lb (Z2 X scope C N fp s2 H2) ps H' b := fun {H' ps} hn hp b hb =>
  ⟨hn b hb, (fD b hb).2, okY.exfs b hb, .inl hb, (okY.exf b hb).2, fun p hp' z => by
   have q : p ∈ ps := hp'
   rw [hp p q] at z
   exact (fD b hb).1 z.symm⟩
 have onlyD : ∀ (o : Obj), ∀ p ∈ [(D, o)], p.1 = D := fun o p hp => by
  have q : p = (D, o) := by simpa using hp
  rw [q]
 have reloc : ∀ {ps : List (Addr × Obj)} {σ' : L2.St} {H' : Hp} {s' : Shared} {o : Obj}, L2.Inv (Z2 X scope C N fp s2 H2) ps σ' H' s' → s'.heap.get? D = some o → H' D = none → (∀ v, o.data ≠ .cell v) →
   L2.Inv (Z2 X scope C N fp s2 H2) [(D, o)] (V0 ix σ) H' s' := fun {ps σ' H' s' o} J' hD hn hd => by
  obtain ⟨m, hm, _⟩ := J'.loc
  refine ⟨J'.ok, J'.os, J'.bare, J'.base, ⟨m, hm, fun i x v a b _ => CW ok I2 f2 J'.base i x v a b⟩, J'.cell, J'.free, J'.freeC, fun p hp => ?_, J'.hok, ?_⟩
  ·have q : p = (D, o) := by
    have z : p ∈ ([] : List (Addr × Obj)) ++ [(D, o)] := hp
    simpa using z
   subst q
   exact ⟨hD, hn, hDC, fun z => absurd (fsD D z) (Nat.not_lt.mpr hDs), hd⟩
  ·show (V0 ix σ).length = N.length
   unfold V0
   rw [List.length_map, ok.len]
 have start : L2.Inv (Z2 X scope C N fp s2 H2) [(D, { cls := .type "list", data := .seq ([] : List Value).toArray })] (V0 ix σ) H2 { s2 with heap := h₁, toks := s2.toks + ([] : List (Str × Value)).length } := by
  refine ⟨okY, rfl, I2.bare, Un.kept old, ⟨_, hns₁, fun i x v a b _ => CW ok I2 f2 (Un.kept old) i x v a b⟩, fun x c e => ?_, I2.hok.fresh hCs, fun x c e => (cellD x c e).2, fun p hp => ?_, I2.hok.kept old, ?_⟩
  ·obtain ⟨v, o, ho, hd⟩ := I2.cell x c (Ja (Zct ok I2) e).1
   exact ⟨v, o, old c o ho, hd⟩
  ·have q : p = (D, { cls := .type "list", data := .seq ([] : List Value).toArray }) := by
    have z : p ∈ ([] : List (Addr × Obj)) ++ [(D, { cls := .type "list", data := .seq ([] : List Value).toArray })] := hp
    simpa using z
   subst q
   exact ⟨hacc, I2.hok.fresh hDs, hDC, fun z => absurd (fsD D z) (Nat.not_lt.mpr hDs), fun v z => nomatch z⟩
  ·show (V0 ix σ).length = N.length
   unfold V0
   rw [List.length_map, ok.len]
 have loop : ∀ s₃ : Shared, s₃ = { s2 with heap := h₁, toks := s2.toks + ([] : List (Str × Value)).length } →
   codeAny (model X.prog X.w) X.A (.compLoop (.ListComp elt [⟨tg, iter, ifs, 0⟩] scope pos) 0 (.ref it) (.ref D) (compEnvC scope (LL X.env scope.names []) C X.env)) (compPost (model X.prog X.w) X.A X.xe use QQ (.ref D) C) s₃ := by
  rintro s₃ rfl
  refine Ge (fun n s' => ∃ (i : Nat) (acc : List PyData) (vs : List V) (its : List Value) (nn : Nat) (H' : Hp) (M' : Mp), L2.Inv (Z2 X scope C N fp s2 H2) [(D, { cls := .type "list", data := .seq its.toArray nn })] (V0 ix σ) H' s' ∧
   tn i s'.heap ∧ (∀ b ∈ fp, H' b = none) ∧ Z4 X.K M' H' ∧ Step M1 H2 M' H' ∧ Vals vs its ∧ Dts X.K M' H' vs acc ∧ W i acc M' ∧ i ≤ ds.length ∧ acc.length ≤ i ∧ n = ds.length - i) ?_ ds.length
   ⟨0, [], [], [], 0, H2, M1, start, T.keep _ _ _ st2 (fun b _ o e => old b o e), fun b hb => (f2 b hb).1, dr1, Step.refl, .nil, .nil, w0, Nat.zero_le _, Nat.le_refl _, rfl⟩
  rintro n s' ⟨i, acc, vs, its, nn, H', M', IY, ti, fr, dr', stp', rv, rd, wi', hil, hal, rfl⟩
  have pinD := IY.pin (D, { cls := .type "list", data := .seq its.toArray nn }) (by simp)
  have fok := fpY (ps := [(D, { cls := .type "list", data := .seq its.toArray nn })]) fr (onlyD _)
  obtain ⟨ygo, ystop⟩ := yl M' H' stp' i
  by_cases hlt : i < ds.length
  ·obtain ⟨jgo, jyl⟩ := ygo hlt
   refine thn (T.item (Z2 X scope C N fp s2 H2) rfl rfl rfl hc i _ s' (V0 ix σ) H' (fun _ _ => False) IY fok ti jgo) fun r s4 ⟨u, hr, h4⟩ => ?_
   subst hr
   refine thn h4 fun _ s5 ⟨x, H5, I5, r5, y5, st5, fr5⟩ => ?_
   obtain ⟨dr5, stp5, d, hd, hxd⟩ := jyl x H5 y5 dr'
   replace dr' := dr5
   replace stp' := stp'.trans stp5
   replace rd := rd.step stp5
   have I5' := I5.pinned (fpY (ps := [(D, { cls := .type "list", data := .seq its.toArray nn })]) fr5 (onlyD _)) (T.obj _ _ st5)
   obtain ⟨tg', pg, qg⟩ := hg C fp s2 H2
   refine thn (pg _ s5 (V0 ix σ) H5 x u (fun σ6 H6 => ∃ Δ6 M6, Z4 X.K M6 H6 ∧ Step M' H5 M6 H6 ∧ JY X.K M6 H6 σ6 Δ6 ∧ tc Δ6 M6 fun b M3 => if b = true then te Δ6 M3 fun y M4 => onD y fun e => W (i + 1) (acc ++ [e]) M4 else W (i + 1) acc M3) I5' r5
    (qg x (V0 ix σ) H5 (.dat d) (Eu ix Δ) M' _ _ dr' ((er.step (stp.trans stp')).cap ix) hxd (wt i d acc M' hd wi') fun σ6 H6 Δ6 M6 a b c d => ⟨Δ6, M6, a, b, c, d⟩)) fun _ s6 ⟨σ6, H6, I6, Δ6, M6, dr6, stp6, er6, q6⟩ => ?_
   refine thn (ht C fp s2 H2 _ s6 σ6 H6 Δ6 M6 _ I6 dr6 er6 q6) fun b s7 ⟨H7, M7, I7, dr7, stp7, q7⟩ => ?_
   have keepD : ∀ {σz : L2.St} {Hz : Hp} {sz : Shared}, L2.Inv (Z2 X scope C N fp s2 H2) ([(D, { cls := .type "list", data := .seq its.toArray nn })] ++ Gx fp s5.heap) σz Hz sz →
     sz.heap.get? D = some { cls := .type "list", data := .seq its.toArray nn } ∧ Hz D = none ∧ tn (i + 1) sz.heap ∧ ∀ b ∈ fp, Hz b = none := fun {σz Hz sz} Iz => by
    have a := Iz.pin (D, { cls := .type "list", data := .seq its.toArray nn }) (by simp)
    refine ⟨a.1, a.2.1, T.keep _ _ _ st5 fun b hb o e => (Iz.pin (b, o) (List.mem_append_right _ (List.mem_append_right _ (V7 hb e)))).1, fun b hb => ?_⟩
    obtain ⟨o, e, _⟩ := T.obj _ _ st5 b hb
    exact (Iz.pin (b, o) (List.mem_append_right _ (List.mem_append_right _ (V7 hb e)))).2.1
   cases b with
   | false =>
    have q7' : W (i + 1) acc M7 := by simpa using q7
    obtain ⟨a1, a2, a3, a4⟩ := keepD I7
    have st17 : Step M' H5 M7 H7 := stp6.trans stp7
    exact ⟨ds.length - (i + 1), by omega, i + 1, acc, vs, its, nn, H7, M7, reloc I7 a1 a2 (fun v z => nomatch z), a3, a4, dr7, stp'.trans st17, rv, rd.step st17, q7', hlt, by omega, rfl⟩
   | true =>
    have q7' : te Δ6 M7 fun y M4 => onD y fun e => W (i + 1) (acc ++ [e]) M4 := by simpa using q7
    obtain ⟨te', pe', qe'⟩ := he C fp s2 H2
    refine thn (pe' _ s7 σ6 H7 (fun v H8 => ∃ e M8, Z4 X.K M8 H8 ∧ Step M7 H7 M8 H8 ∧ Dt X.K M8 H8 v e ∧ W (i + 1) (acc ++ [e]) M8) I7 (qe' σ6 H7 Δ6 M7 _ _ dr7 (er6.step stp7) q7' fun v H8 x8 M8 a b c d => by
     replace d := Qo d
     obtain ⟨e, rfl, w8⟩ := d
     exact ⟨e, M8, a, b, c, w8⟩)) fun y s8 ⟨v, H8, I8, r8, e, M8, dr8, stp8, dv8, w8⟩ => ?_
    obtain ⟨a1, a2, a3, a4⟩ := keepD I8
    have st18 : Step M' H5 M8 H8 := stp6.trans (stp7.trans stp8)
    have lv := rv.length
    have ld := rd.length
    refine call_meets PySem.F.slot_list_append ⟨_, a1, rfl⟩ PySem.F.entry_list_append (PySem.F.args_list_append_2 _ _) (PySem.list_append D its.toArray nn y (by rw [List.size_toArray]; omega)) ⟨a1, ?_⟩
    have q := PySem.IsL.update a1 (·.push y)
    have I8' : L2.Inv (Z2 X scope C N fp s2 H2) [] σ6 H8 s8 := I8.KZ fun p hp => nomatch hp
    have I9 := I8'.turned (it := D) (h' := s8.heap.update D (Obj.mapSeq (·.push y))) (t' := s8.toks) (fun b o hb hu => (Heap.get?_update_other s8.heap (Obj.mapSeq (·.push y)) (Ne.symm hb)).trans hu) a2 hDC (.inr hDs)
     (fun x c e z => absurd (z ▸ (cellD x c e).1) (Nat.not_lt.mpr hDs)) (fun p hp => by have z : p ∈ ([] : List (Addr × Obj)) ++ [] := hp; simp at z)
    have ea : (its.toArray.push y) = (its ++ [y]).toArray := by simp
    rw [ea] at q
    refine ⟨ds.length - (i + 1), by omega, i + 1, acc ++ [e], vs ++ [v], its ++ [y], _, H8, M8, reloc I9 q a2 (fun v z => nomatch z), T.keep _ _ _ a3 (fun b hb o e => (Heap.get?_update_other s8.heap (Obj.mapSeq (·.push y)) (Ne.symm (fD b hb).1)).trans e), a4, dr8, stp'.trans st18,
     rv.append (.cons r8 .nil), (rd.step st18).append (.cons dv8 .nil), w8, hlt, by rw [List.length_append, List.length_singleton]; omega, rfl⟩
  ·have hie : i = ds.length := by omega
   refine thn (T.done (Z2 X scope C N fp s2 H2) rfl rfl rfl hc i _ s' (V0 ix σ) H' (fun _ _ => False) IY fok ti (ystop (by omega))) fun r s4 ⟨hr, I4⟩ => ?_
   subst hr
   obtain ⟨m4, hm4, _⟩ := I4.loc
   have pD := I4.pin (D, { cls := .type "list", data := .seq its.toArray nn }) (by simp)
   have hCn : H' C = none := I4.free
   have hDn : H' D = none := pD.2.1
   have hok4 : HOk X.prog X.w (upd H' D (.lst vs)) s4.heap := fun b u e => by
    by_cases hb : b = D
    ·subst hb
     rw [Jx] at e
     cases e
     exact ⟨by have := rv.length; have := rd.length; omega, its, nn, rv, pD.1⟩
    ·rw [ZW hb] at e
     refine (I4.hok b u e).Tn (fun c v hc' q => q) (fun c q => ?_) fun c xs q => ?_
     ·rw [ZW (ZJ q pD.2.1)]; exact q
     ·rw [ZW (ZJ q pD.2.1)]; exact q
   have bu : Un (frs X.stack) fp H2 H' s2.heap s4.heap := I4.base
   have un4 : Un (frs X.stack) fp H2 (upd H' D (.lst vs)) s2.heap s4.heap := by
    have nD : ∀ b o, s2.heap.get? b = some o → b ≠ D ∧ b ≠ C := fun b o e => ⟨fun z => absurd (z ▸ Heap.lt_size e) (Nat.not_lt.mpr hDs), fun z => absurd (z ▸ Heap.lt_size e) (Nat.not_lt.mpr hCs)⟩
    refine ⟨fun b o e n hb hx => bu.keep b o e n hb hx, fun b o e n hb hx => bu.slot b o e n hb hx, fun b o e n hx => by rw [ZW (nD b o e).1]; exact bu.free b o e n hx, fun b o e hx => bu.there b o e hx, fun b xs e => ?_, fun b o xs e => ?_, fun b ps e => ?_⟩
    ·have q := bu.tups b xs e
     rw [ZW (ZJ q pD.2.1)]; exact q
    ·have q := bu.frzs b o xs e
     rw [ZW (ZJ q pD.2.1)]; exact q
    ·obtain ⟨mo, q⟩ := bu.tbls b ps e
     exact ⟨mo, by rw [ZW (ZJ q pD.2.1)]; exact q⟩
   have os4 : s4.os = s2.os := I4.os
   have IX : L2.Inv X pins σ (upd H' D (.lst vs)) s4 := I2.ZbE (s' := s4) os4 un4 hok4 I4.bare fun b hb => ⟨(f2 b hb).2.2.2.1, (f2 b hb).2.1, (f2 b hb).2.2.2.2.1, (f2 b hb).2.2.2.2.2⟩
   subst hie
   exact hfin s4 C D H' M' vs acc IX hDn dr' (stp.trans stp') rd (wd acc M' wi') ⟨m4, hm4⟩ (I2.ZcG hCs (by rw [ZW (Ne.symm hDC)]; exact hCn))
 have hst₁ : tn 0 h₁ := T.keep _ _ _ st2 fun b _ o e => old b o e
 exact codeAny_compStart_list (loop _ rfl) (T.self _ 0 _ _ _ hst₁ (loop _ rfl))
theorem ZbM {h h' : Heap} {C : Addr} {m : Str → Option Value} (n : h.Ns C m) (k : ∀ o, h.get? C = some o → h'.get? C = some o) : h'.Ns C m := by
 obtain ⟨o, es, ep, ho, r⟩ := n
 exact ⟨o, es, ep, k o ho, r⟩
theorem gone {pins : List (Addr × Obj)} {σ : L2.St} {H : Hp} {s : Shared} {C : Addr} {h' : Heap} (I : L2.Inv X pins σ H s) (f : Lb X pins H C) (hsb : Heap.SameBut C s.heap h') : L2.Inv X pins σ H { s with heap := h' } :=
 I.turned (t' := s.toks) (fun b o hb e => hsb.extBut b o hb e) f.1 f.2.1 f.2.2.2.1 f.2.2.2.2.1 f.2.2.2.2.2
theorem Zb1 {ow : Bool} {Φ : DK} {Q : VK} {M M' : Mp} {H H' : Hp} {D : Addr} {vs : List V} {acc : List PyData} (dr' : Z4 X.K M' H') (st : Step M H M' H') (rd : Dts X.K M' H' vs acc) (hDn : H' D = none) (fin : Dk ow Φ acc M') (k : Rch X.K M H Φ Q) : Q (.ref D) (upd H' D (.lst vs)) := by
 cases ow with
 | true =>
  have fin' : ∀ p, M' p = none → Φ (.own p) (Z3 M' p (.lst acc)) := by simpa [Dk] using fin
  exact k _ _ (.own D) _ (dr'.XF (Step.Yg hDn) rd) (st.trans (Step.Yg hDn)) rfl (fin' D (dr'.tracked hDn))
 | false =>
  have fin' : Φ (.dat (.list acc)) M' := by simpa [Dk] using fin
  exact k.dat (dr'.new hDn) (st.trans (Step.new hDn)) (Dt.XI dr' hDn rd) fin'
theorem Q2 (ow : Bool) {elt tg iter : Expr} {ifs : List Expr} {scope : Scope} {pos : Pos} {src : Wx} {N : List Str} {ix : List (Option Nat)} {g : DTG} {tc : DTT} {te : DTE} (ok : YL X scope N ix) (hi : DI X tg iter src)
  (hg : ∀ C ex s H, DG (Z2 X scope C N ex s H) tg g) (ht : ∀ C ex s H, DTs (Z2 X scope C N ex s H) ifs tc) (he : ∀ C ex s H, DE (Z2 X scope C N ex s H) elt te) (hc : X.calm = true)
  (hs : autoParam (∀ x, foldedSetIterable iter X.env x = pure x) zz2._auto_1) : DE X (.ListComp elt [⟨tg, iter, ifs, 0⟩] scope pos) (OB ow src ix g tc te) := by
 refine ⟨fun σ H Q => ∀ pins s, L2.Inv X pins σ H s → wpAny (model X.prog X.w) X.A (eval (.ListComp elt [⟨tg, iter, ifs, 0⟩] scope pos) X.env) (EP X pins σ Q) X.xe s, fun pins s σ H Q I h => h pins s I, fun σ H Δ M Φ Q dr er h k pins s I => ?_⟩
 rw [eval_ListComp]
 refine Gj (ψ := Dk ow Φ) ok hi hg ht he hc hs dr er h I fun s4 C D H' M' vs acc IX hDn dr' st rd fin hm f => ?_
 obtain ⟨m, hm⟩ := hm
 exact ⟨m, hm, fun h' hsb => ⟨.ref D, _, gone IX f hsb, rfl, Zb1 dr' st rd hDn fin k⟩⟩
theorem HN (i : Nat) (ow : Bool) {x : Str} {pos' spos : Pos} (hN : X.N.Nodup) {elt tg iter : Expr} {ifs : List Expr} {scope : Scope} {pos : Pos} {src : Wx} {N : List Str} {ix : List (Option Nat)} {g : DTG} {tc : DTT} {te : DTE} (ok : YL X scope N ix) (hi : DI X tg iter src)
  (hg : ∀ C ex s H, DG (Z2 X scope C N ex s H) tg g) (ht : ∀ C ex s H, DTs (Z2 X scope C N ex s H) ifs tc) (he : ∀ C ex s H, DE (Z2 X scope C N ex s H) elt te) (hc : X.calm = true)
  (hs : autoParam (∀ x, foldedSetIterable iter X.env x = pure x) zz2._auto_1) (hin : autoParam (X.N[i]? = some x) zz3._auto_1) (hx : autoParam (Loc X.env.scope x) zz8._auto_1)
  (hsw : autoParam (swapsWith (.ListComp elt [⟨tg, iter, ifs, 0⟩] scope pos) (some (.Name x pos')) spos.line X.env = pure true) zz3._auto_1)
  (hf : autoParam (X.fn x = true ∨ X.env.scope.names.lookup x = some .local) zz0._auto_1) :
  DS X (.Assign [.Name x pos'] (.ListComp elt [⟨tg, iter, ifs, 0⟩] scope pos) spos) (T3 (OB ow src ix g tc te) (Kp i)) := by
 refine ⟨fun E σ H => ∀ pins s, L2.Inv X pins σ H s → wpAny (model X.prog X.w) X.A (exec (.Assign [.Name x pos'] (.ListComp elt [⟨tg, iter, ifs, 0⟩] scope pos) spos) X.env) (SP X pins E) X.xe s, fun pins s σ H E I h => h pins s I, fun σ H Δ M D E dr er h k pins s I => ?_⟩
 rw [exec_Assign_Name_used _ _ _ _ hsw]
 refine wpAny_bind (wpAny_standAt (wpAny_bind ?_))
 show wpAny _ _ (do let _ ← comprehension (.ListComp elt [⟨tg, iter, ifs, 0⟩] scope pos) scope X.env _ (newList []) false (eval iter X.env) (some (assign (.Name x pos') X.env))) _ _ s
 refine wpAny_bind (wpAny_mono (Gj (QQ := fun _ s' => SP X pins E .next s') (use := some (assign (.Name x pos') X.env)) (ψ := Dk ow fun y M1 => D.nx (Δ.set i (some y)) M1) ok hi hg ht he hc hs dr er h I fun s4 C DD H' M' vs acc IX hDn dr' st rd fin hm f => ?_)
  (fun _ s' hq => wpAny_pure (wpAny_pure hq)) fun _ _ e => e)
 obtain ⟨m, hm⟩ := hm
 have hm0 := hm
 obtain ⟨oC, es, ep, hoC, hr1, hr2⟩ := hm0
 have IP : L2.Inv X (pins ++ [(C, oC)]) σ (upd H' DD (.lst vs)) s4 := IX.KZ fun p hp => by
  rcases List.mem_append.mp hp with hp | hp
  ·exact IX.pin p (List.mem_append_right _ hp)
  ·rw [List.mem_singleton.mp hp]
   exact ⟨hoC, f.1, f.2.1, f.2.2.1, fun v z => nomatch (hr1.symm.trans z)⟩
 have nxt : ∀ Q' : L2.St → Hp → Prop, (Q' (σ.set i (some (.ref DD))) (upd H' DD (.lst vs))) → wpAny (model X.prog X.w) X.A (assign (.Name x pos') X.env (.ref DD)) (fun _ s' => ∃ σ' H', L2.Inv X (pins ++ [(C, oC)]) σ' H' s' ∧ Q' σ' H') X.xe s4 := fun Q' hq =>
  HZ (pos := pos') hN hin hx hf _ s4 σ _ (.ref DD) (.ref DD) Q' IP rfl hq
 have kq : E.nx (σ.set i (some (.ref DD))) (upd H' DD (.lst vs)) := by
  cases ow with
  | true =>
   have fin' : ∀ p, M' p = none → D.nx (Δ.set i (some (.own p))) (Z3 M' p (.lst acc)) := by simpa [Dk] using fin
   have st2 : Step M H (Z3 M' DD (.lst acc)) (upd H' DD (.lst vs)) := st.trans (Step.Yg hDn)
   exact k.nx _ _ _ _ (dr'.XF (Step.Yg hDn) rd) st2 ((er.step st2).set (v := .ref DD) (x := .own DD) rfl) (fin' DD (dr'.tracked hDn))
  | false =>
   have fin' : D.nx (Δ.set i (some (.dat (.list acc)))) M' := by simpa [Dk] using fin
   have st2 : Step M H M' (upd H' DD (.lst vs)) := st.trans (Step.new hDn)
   exact k.nx _ _ _ _ (dr'.new hDn) st2 ((er.step st2).set (v := .ref DD) (x := .dat (.list acc)) (Dt.XI dr' hDn rd)) fin'
 show wpAny _ _ (assign (.Name x pos') X.env (.ref DD)) _ _ s4
 refine thn (nxt (fun σ' H' => σ' = σ.set i (some (.ref DD)) ∧ E.nx σ' H') ⟨rfl, kq⟩) fun _ s5 ⟨σ5, H5, I5, _, q5⟩ => ?_
 have p5 := I5.pin (C, oC) (by simp)
 refine ⟨m, ZbM hm fun o ho => ?_, fun h' hsb => ⟨σ5, H5, ?_, q5⟩⟩
 ·rw [hoC] at ho
  cases ho
  exact p5.1
 ·have I6 : L2.Inv X pins σ5 H5 s5 := I5.KZ fun p hp => I5.pin p (List.mem_append_right _ (List.mem_append_left _ hp))
  exact gone I6 ⟨p5.2.1, f.2⟩ hsb
end
end DL
namespace DL
open PySem PySem.Spec PyProof.Rows L2
section
variable {X : Cx}
noncomputable def VG (xs : List DV) (M : Mp) (ns : List Int) : Prop := xs = [.dat (.list (ns.map PyData.int))] ∨ ∃ l, xs = [.own l] ∧ M l = some (.lst (ns.map PyData.int))
theorem VG.sq {M : Mp} {H : Hp} {vs : List V} {xs : List DV} {ns : List Int} (h : VG xs M ns) (r : Z4 X.K M H) (rv : YR X.K M H vs xs) : ∃ p, vs = [.ref p] ∧ SqL X.K H p (ns.map V.int) := by
 rcases h with rfl | ⟨l, rfl, hm⟩
 ·obtain ⟨v, rfl, h1⟩ := Paired.one rv
  obtain ⟨p, ys, rfl, g1, g2⟩ := QT.lst h1
  rw [Xj g2] at g1
  exact ⟨p, rfl, g1.sq⟩
 ·obtain ⟨v, rfl, h1⟩ := Paired.one rv
  cases (show v = .ref l from h1)
  obtain ⟨ws, g1, g2⟩ := r.ls l _ hm
  rw [Xj g2] at g1
  exact ⟨l, rfl, SqL.of g1⟩
noncomputable def RK : D1 := fun xs M Φ => ∃ ns : List Int, VG xs M ns ∧ ns.length < 64 ∧ ∀ ns' : List Int, ns'.Perm ns → ns'.Pairwise (· ≤ ·) → Φ (.dat (.list (ns'.map PyData.int))) M
theorem FV (hc : X.calm = true) : VI X (.builtin "min") (fun xs H Q => ∃ (p : Addr) (ns : List Int), xs = [.ref p] ∧ SqL X.K H p (ns.map V.int) ∧ 0 < ns.length ∧ ∀ m ∈ ns, (∀ a ∈ ns, m ≤ a) → Q (.int m) H) := by
 intro pins s σ H xs us Q I r h
 obtain ⟨p, ns, rfl, hq, h0, q⟩ := h
 obtain ⟨u, rfl, rx⟩ := vals1 r
 cases rx
 obtain ⟨its, rv, pl, hz⟩ := I.list hq
 have hi : IntsAre its ns := intsAre_of rv
 obtain ⟨xs, e⟩ := hi.allInts.items
 have hns : ns = xs.toList.map (·.1) := by rw [← hi.numsOf, ← nums_intItems, ← e]
 have hsz : 0 < xs.size := by
  have h3 := h0; rw [hns, List.length_map, Array.length_toList] at h3; exact h3
 have hl := pl.isList
 rw [e] at hl
 refine min_intList (I.ok.hd hc) hl hsz fun v h' tk hv hk => ?_
 obtain ⟨t, rfl⟩ := intItems_at hv
 obtain ⟨h1, h2⟩ := argBest_lt (numAt xs) (xs.size - 1)
 refine ⟨.int _, H, I.kept hk, ⟨t, rfl⟩, q _ ?_ fun a ha => ?_⟩
 ·rw [hns, numAt_eq]; exact getD_mem (by rw [List.length_map, Array.length_toList]; omega)
 ·rw [hns] at ha
  obtain ⟨j, hj, rfl⟩ := mem_getD ha
  rw [List.length_map, Array.length_toList] at hj
  rw [← numAt_eq]; exact h2 j (by omega)
theorem E8 (hc : X.calm = true) : VI X (.builtin "max") (fun xs H Q => ∃ (p : Addr) (ns : List Int), xs = [.ref p] ∧ SqL X.K H p (ns.map V.int) ∧ 0 < ns.length ∧ ∀ m ∈ ns, (∀ a ∈ ns, a ≤ m) → Q (.int m) H) := by
 intro pins s σ H xs us Q I r h
 obtain ⟨p, ns, rfl, hq, h0, q⟩ := h
 obtain ⟨u, rfl, rx⟩ := vals1 r
 cases rx
 obtain ⟨its, rv, pl, hz⟩ := I.list hq
 have hi : IntsAre its ns := intsAre_of rv
 obtain ⟨xs, e⟩ := hi.allInts.items
 have hns : ns = xs.toList.map (·.1) := by rw [← hi.numsOf, ← nums_intItems, ← e]
 have hsz : 0 < xs.size := by
  have h3 := h0; rw [hns, List.length_map, Array.length_toList] at h3; exact h3
 have hl := pl.isList
 rw [e] at hl
 refine max_intList (I.ok.hd hc) hl hsz fun v h' tk hv hk => ?_
 obtain ⟨t, rfl⟩ := intItems_at hv
 obtain ⟨h1, h2⟩ := argBest_gt (numAt xs) (xs.size - 1)
 refine ⟨.int _, H, I.kept hk, ⟨t, rfl⟩, q _ ?_ fun a ha => ?_⟩
 ·rw [hns, numAt_eq]; exact getD_mem (by rw [List.length_map, Array.length_toList]; omega)
 ·rw [hns] at ha
  obtain ⟨j, hj, rfl⟩ := mem_getD ha
  rw [List.length_map, Array.length_toList] at hj
  rw [← numAt_eq]; exact h2 j (by omega)
noncomputable def OW : D1 := fun xs M Φ => ∃ ns : List Int, VG xs M ns ∧ 0 < ns.length ∧ ∀ m ∈ ns, (∀ a ∈ ns, m ≤ a) → Φ (.dat (.int m)) M
noncomputable def Pm : D1 := fun xs M Φ => ∃ ns : List Int, VG xs M ns ∧ 0 < ns.length ∧ ∀ m ∈ ns, (∀ a ∈ ns, a ≤ m) → Φ (.dat (.int m)) M
theorem Uc (hc : X.calm = true) : VO X (.builtin "min") OW := by
 refine ⟨_, FV hc, fun vs H xs M Φ Q r rv h k => ?_⟩
 obtain ⟨ns, hx, h0, q⟩ := h
 obtain ⟨p, rfl, hs⟩ := hx.sq r rv
 exact ⟨p, ns, rfl, hs, h0, fun m a b => k.dat r Step.refl (Dt.int m) (q m a b)⟩
theorem FP (hc : X.calm = true) : VO X (.builtin "max") Pm := by
 refine ⟨_, E8 hc, fun vs H xs M Φ Q r rv h k => ?_⟩
 obtain ⟨ns, hx, h0, q⟩ := h
 obtain ⟨p, rfl, hs⟩ := hx.sq r rv
 exact ⟨p, ns, rfl, hs, h0, fun m a b => k.dat r Step.refl (Dt.int m) (q m a b)⟩
theorem Paired.three {α β : Type} {F : α → β → Prop} {l : List α} {b c d : β} (h : Paired F l [b, c, d]) : ∃ a a' a'', l = [a, a', a''] ∧ F a b ∧ F a' c ∧ F a'' d := by
 cases h with
 | cons h1 h2 =>
  obtain ⟨a, a', rfl, h3, h4⟩ := Paired.two h2
  exact ⟨_, a, a', rfl, h1, h3, h4⟩
noncomputable def δ3I (g : Int → Int → Int → Int) : D1 := fun xs M Φ => on3 xs fun x y z => onI x fun i => onI y fun j => onI z fun l => Φ (.dat (.int (g i j l))) M
theorem HX (hc : X.calm = true) : VI X (.builtin "max") (fun xs H Q => ∃ i j l, xs = [.int i, .int j, .int l] ∧ Q (.int (max i (max j l))) H) := by
 intro pins s σ H xs us Q I r h
 obtain ⟨i, j, l, rfl, q⟩ := h
 obtain ⟨u, hu⟩ : ∃ u, us = u := ⟨us, rfl⟩
 cases r with
 | cons r1 r2 =>
  obtain ⟨u2, u3, rfl, r3, r4⟩ := vals2 r2
  obtain ⟨t1, rfl⟩ := r1
  obtain ⟨t2, rfl⟩ := r3
  obtain ⟨t3, rfl⟩ := r4
  refine max_three_ints (I.ok.hd hc) fun h' tk k => ⟨.int (max i (max j l)), H, I.kept k, ?_, q⟩
  by_cases c1 : j > i
  ·rw [if_pos c1]
   by_cases c2 : l > j
   ·rw [if_pos c2]; exact ⟨t3, by rw [show max i (max j l) = l by omega]⟩
   ·rw [if_neg c2]; exact ⟨t2, by rw [show max i (max j l) = j by omega]⟩
  ·rw [if_neg c1]
   by_cases c2 : l > i
   ·rw [if_pos c2]; exact ⟨t3, by rw [show max i (max j l) = l by omega]⟩
   ·rw [if_neg c2]; exact ⟨t1, by rw [show max i (max j l) = i by omega]⟩
theorem Fl (hc : X.calm = true) : VO X (.builtin "max") (δ3I fun i j l => max i (max j l)) := by
 refine ⟨_, HX hc, fun vs H xs M Φ Q r rv h k => ?_⟩
 replace h := ZS h
 obtain ⟨x, y, z, rfl, h⟩ := h
 replace h := ZO h
 obtain ⟨i, rfl, h⟩ := h
 replace h := ZO h
 obtain ⟨j, rfl, h⟩ := h
 replace h := ZO h
 obtain ⟨l, rfl, q⟩ := h
 obtain ⟨v, u, w', rfl, h1, h2, h3⟩ := Paired.three rv
 exact ⟨i, j, l, by rw [QT.int h1, QT.int h2, QT.int h3], k.dat r Step.refl (Dt.int _) q⟩
noncomputable def HG : D1 := fun xs M Φ => on1 xs fun x => onQ x M fun ds => Φ (.dat (.tuple ds)) M
theorem J7 : VO X (.type "tuple") HG := by
 refine ⟨_, WR, fun vs H xs M Φ Q r rv h k => ?_⟩
 replace h := Qa h
 obtain ⟨x, rfl, h⟩ := h
 replace h := Gy h
 obtain ⟨ds, hx, q⟩ := h
 have hx' : x = .dat (.list ds) ∨ x = .dat (.tuple ds) ∨ ∃ l, x = .own l ∧ M l = some (.lst ds) := by
  rcases hx with a | a | a
  ·exact .inr (.inl a)
  ·exact .inl a
  ·exact .inr (.inr a)
 rcases hx' with rfl | rfl | ⟨l, rfl, hm⟩
 ·obtain ⟨v, rfl, h1⟩ := Paired.one rv
  obtain ⟨p, ys, rfl, g1, g2⟩ := QT.lst h1
  exact ⟨p, ys, rfl, .inl ⟨g1.sq, fun l hl => k.dat (r.new hl) (Step.new hl) (Dt.WB r hl g2) q⟩⟩
 ·obtain ⟨v, rfl, h1⟩ := Paired.one rv
  obtain ⟨p, ys, rfl, g1, g2⟩ := QT.tup h1
  exact ⟨p, ys, rfl, .inr ⟨g1.sq, k.dat r Step.refl (Dt.tup g1 g2) q⟩⟩
 ·obtain ⟨v, rfl, h1⟩ := Paired.one rv
  cases (show v = .ref l from h1)
  obtain ⟨ws, g1, g2⟩ := r.ls l _ hm
  exact ⟨l, ws, rfl, .inl ⟨SqL.of g1, fun l hl => k.dat (r.new hl) (Step.new hl) (Dt.WB r hl g2) q⟩⟩
theorem Zbg (hu : X.A.units + 66 < cLine) : OpR X (compareOp .In) (fun x y H Q => ∃ M d ds, Dt X.K M H x d ∧ (Dt X.K M H y (.list ds) ∨ Dt X.K M H y (.tuple ds)) ∧ d.canLay0 = true ∧ PyData.canLayAll0 ds = true ∧ d.depth ≤ 64 ∧ Q (.bl (ds.any fun e => PyData.eqv e d)) H) := by
 intro pins s σ H x y v u Q I rx ry h
 obtain ⟨M, d, ds, h1, h2, c1, c2, hdp, q⟩ := h
 obtain ⟨as, ra, _⟩ := h1.reads I rx
 rcases h2 with h2 | h2
 ·obtain ⟨bs, rb, _⟩ := h2.reads I ry
  exact PySem.SeqAt.in_list_reads rb ra c2 c1 (by have := Nat.min_le_right (PyData.depthAll ds) d.depth; omega) ⟨.bl _, H, I, rfl, q⟩
 ·obtain ⟨bs, rb, _⟩ := h2.reads I ry
  exact PySem.SeqAt.in_tuple_reads rb ra c2 c1 (by have := Nat.min_le_right (PyData.depthAll ds) d.depth; omega) ⟨.bl _, H, I, rfl, q⟩
noncomputable def onW (x : DV) (P : List PyData → Prop) : Prop := match x with | .dat (.tuple ds) => P ds | .dat (.list ds) => P ds | _ => False
theorem Pa {x : DV} {P : List PyData → Prop} (h : onW x P) : ∃ ds, (x = .dat (.list ds) ∨ x = .dat (.tuple ds)) ∧ P ds := by
 unfold onW at h
 split at h
 ·exact ⟨_, .inr rfl, h⟩
 ·exact ⟨_, .inl rfl, h⟩
 ·exact h.elim
noncomputable def okIn (d : PyData) (ds : List PyData) : Bool := d.canLay0 && PyData.canLayAll0 ds && Nat.ble d.depth 64
theorem Fv {d : PyData} {ds : List PyData} (h : okIn d ds = true) : d.canLay0 = true ∧ PyData.canLayAll0 ds = true ∧ d.depth ≤ 64 := by
 unfold okIn at h
 simp only [Bool.and_eq_true] at h
 exact ⟨h.1.1, h.1.2, Nat.le_of_ble_eq_true h.2⟩
noncomputable def δIn : D2 := fun x y M Φ => onD x fun d => onW y fun ds => okIn d ds = true ∧ Φ (.dat (.bool (ds.any fun e => PyData.eqv e d))) M
theorem ZdD {k : Nat} (hr : Y8 k X.A) : OpD X (compareOp .In) δIn :=
 ⟨_, Zbg (by have := hr.un; omega), fun v u H x y M Φ Q r rv ru h k => by
  obtain ⟨d, e1, h⟩ := Qo h
  obtain ⟨ds, e2, ho, q⟩ := Pa h
  obtain ⟨c1, c2, hdp⟩ := Fv ho
  subst e1
  refine ⟨M, d, ds, rv, ?_, c1, c2, hdp, k.dat r Step.refl (Dt.bl _) q⟩
  rcases e2 with rfl | rfl
  ·exact .inl ru
  ·exact .inr ru⟩
noncomputable def HD (to te : DTE) : DTE := fun Δ M Φ => to Δ M fun x M1 => onO x fun l => XT (M1 l) fun _ => te Δ M1 fun y M2 => onO y fun b => XT (M2 l) fun ds => XT (M2 b) fun es => b ≠ l ∧ ds.length + es.length ≤ sizeLine ∧ Φ (.dat .none) (K6 (Z3 M2 l (.lst (ds ++ es))) b)
theorem U9 {o e : Expr} {to te : DTE} {apos cpos : Pos} (ho : DE X o to) (he : DE X e te) (hbase : autoParam (attributeBase o "extend" X.env (eval o X.env) = eval o X.env) zz3._auto_1)
  (hfew : ((backTo cpos (starEach [e] X.env)).all (fun x => !x.1) && (backToKw cpos (keywordEach [] X.env)).all (fun x => x.1.isSome)
   && decide ([e].length + ([] : List Keyword).length + (if ([] : List Keyword).isEmpty then 0 else 1) < 30)) = true := by rfl)
  (hline : autoParam ((apos.endLine == cpos.line) = true) zz3._auto_1) (hs : autoParam (starEach [e] X.env = (false, eval e X.env) :: starEach [] X.env) zz3._auto_1) (hplain : autoParam ((backTo cpos (starEach [] X.env)).any (·.1) = false) zz3._auto_1) :
  DE X (.Call (.Attribute o "extend" apos) [e] [] cpos) (HD to te) := by
 obtain ⟨t1, p1, q1⟩ := ho
 obtain ⟨t2, p2, q2⟩ := he
 refine ⟨_, Za8 PySem.F.plainAttrs_list PySem.F.slot_list_extend PySem.F.type_list_extend HS p1 (GW p2 Ff hs) hbase hfew hline hs hplain, fun σ H Δ M Φ Q r e h k => ?_⟩
 refine q1 σ H Δ M _ _ r e h fun v H1 x M1 r1 st rv hx => ?_
 replace hx := Jm hx
 obtain ⟨l, rfl, hx⟩ := hx
 replace hx := Vk hx
 obtain ⟨oo, ho, hx⟩ := hx
 cases (show v = .ref l from rv)
 have ty : tyV X.K "list" (.ref l) H1 := by
  obtain ⟨vs, g1, _⟩ := r1.ls l oo ho
  exact .inl ⟨rfl, vs, SqL.of g1⟩
 refine ⟨ty, q2 σ H1 Δ M1 _ _ r1 (e.step st) hx fun w H2 y M2 r2 st2 rw2 hy => ?_⟩
 replace hy := Jm hy
 obtain ⟨b, rfl, hy⟩ := hy
 replace hy := Vk hy
 obtain ⟨ds, hm, hy⟩ := hy
 replace hy := Vk hy
 obtain ⟨es, hb, hne, hz, hy⟩ := hy
 cases (show w = .ref b from rw2)
 obtain ⟨vs, g1, g2⟩ := r2.ls l ds hm
 obtain ⟨ws, g3, g4⟩ := r2.ls b es hb
 have st3 : Step M2 H2 (Z3 M2 l (.lst (ds ++ es))) (upd H2 l (.lst (vs ++ ws))) := Step.Gs hm
 refine ⟨l, b, vs, ws, rfl, rfl, g1, g3, by rw [g2.length, g4.length]; exact hz, ?_⟩
 exact k.dat (r2.XF st3 (g2.append g4)).frz (st.trans (st2.trans (st3.trans Step.frz))) Dt.non hy
theorem X3 {tg a b : Expr} {body : List Stmt} {g : DTG} {tb : DTS} {pos : Pos} {ta : DTA} {p p2 : Pos} (hg0 : Gl X "range") (hm : X.mg "range" = none) (ha : DA X [a, b] ta) (hg : DG X tg g) (hb : DSs X body tb) (hp : PassesOwn (model X.prog X.w) X.A X.env X.xe) (hc : X.calm = true)
  (hs : autoParam (starEach [a, b] X.env = [(false, eval a X.env), (false, eval b X.env)]) zz3._auto_1) (hs' : autoParam (starEach [b] X.env = [(false, eval b X.env)]) zz3._auto_1) (hs2 : autoParam (∀ x, foldedSetIterable (.Call (.Name "range" p) [a, b] [] p2) X.env x = pure x) zz2._auto_1) :
  DS X (.For tg (.Call (.Name "range" p) [a, b] [] p2) body [] pos) (Pk ta g tb) := by
 obtain ⟨t1, p1, q1⟩ := ha
 obtain ⟨t2, p2, q2⟩ := hg
 obtain ⟨t3, p3, q3⟩ := hb
 refine ⟨_, CC hp hc (Fh hg0 hm p1 hs hs') p2 p3 hs2, fun σ H Δ M D E r e h k => ?_⟩
 refine q1 σ H Δ M _ _ r e h fun vs H1 xs M1 r1 st rv hx => ?_
 replace hx := Zz hx
 obtain ⟨xx, yy, rfl, hx⟩ := hx
 replace hx := ZO hx
 obtain ⟨i, rfl, hx⟩ := hx
 replace hx := ZO hx
 obtain ⟨j, rfl, ⟨⟨a1, a2⟩, a3, a4⟩, hx⟩ := hx
 have h1 : -(2 ^ 62) ≤ i ∧ i < 2 ^ 62 ∧ -(2 ^ 62) ≤ j ∧ j < 2 ^ 62 := ⟨a1, a2, a3, a4⟩
 obtain ⟨v, u, rfl, hv, hu⟩ := Paired.two rv
 exact ⟨i, j, by rw [QT.int hv, QT.int hu], h1, Pp q2 q3 r1 (e.step st) hx (k.step st)⟩
noncomputable def Ze6 (te : DTE) (tl th : DTO) : DTE := fun Δ M Φ => te Δ M fun x M1 => tl Δ M1 fun l M2 => th Δ M2 fun u M3 => onL x fun ds => Φ (.dat (.list (cutD ds l u))) M3
noncomputable def OA (scope sc : Scope) : List (Str × NameKind) := scope.names.map fun (n, k) => if (k == .free && sc.kind == .function && sc.names.lookup n == some .cell) then (n, .cell) else (n, k)
noncomputable def ZaE (sc : Scope) (XN : List Str) (scope : Scope) (N : List Str) (ix : List (Option Nat)) (j : Nat) : Bool :=
 match N[j]?, ix[j]? with
 | some x, some (some i) => decide (XN[i]? = some x) && (decide ((x, NameKind.free) ∈ scope.names) && decide ((OA scope sc).lookup x = some .cell))
 | _, _ => true
theorem ZQ {sc : Scope} {XN : List Str} {scope : Scope} {N : List Str} {ix : List (Option Nat)} (hsc : X.env.scope = sc) (hN : X.N = XN)
  (h : scope.kind = .function ∧ (∀ y ∈ scope.names, y.2 ≠ .cell) ∧ (∀ y ∈ scope.names, y.2 = .local → scope.names.lookup y.1 = some .local) ∧ (∀ y ∈ scope.names, y.2 = .free → sc.names.lookup y.1 = some .cell) ∧ N.length = ix.length ∧
   ∀ j ∈ List.range N.length, ZaE sc XN scope N ix j = true) : YL X scope N ix := by
 obtain ⟨h1, h2, h3, h4, h5, h6⟩ := h
 subst hsc hN
 refine ⟨h1, h2, h3, h4, h5, fun j x i hx hi => ?_⟩
 have hj : j < N.length := (List.getElem?_eq_some_iff.mp hx).1
 have q := h6 j (List.mem_range.mpr hj)
 unfold ZaE at q
 rw [hx, hi] at q
 simp only [Bool.and_eq_true, decide_eq_true_eq] at q
 exact ⟨q.1, q.2.1, q.2.2⟩
end
end DL
namespace DL
open PySem PySem.Spec PyProof.Rows L2
theorem Ly {M : Mp} {p b : Addr} {o o2 o3 : OO} (h : Z3 M p o b = none) : K6 (Z3 (Z3 (Z3 M p o) b o2) p o3) b = Z3 M p o3 := by
 have hne : b ≠ p := fun e => by rw [e, ZU] at h; cases h
 rw [Qm hne] at h
 funext c
 unfold K6 Z3
 by_cases h1 : c = b
 ·rw [if_pos h1, if_neg (by rw [h1]; exact hne), h1, h]
 ·rw [if_neg h1]
  by_cases h2 : c = p
  ·rw [if_pos h2, if_pos h2]
  ·rw [if_neg h2, if_neg h1, if_neg h2, if_neg h2]
theorem fresh_ne {M : Mp} {p b : Addr} {o : OO} (h : Z3 M p o b = none) : b ≠ p := fun e => by rw [e, ZU] at h; cases h
theorem take_snoc {α β : Type} {l : List α} {i : Nat} {a : α} (f : α → β) (h : l[i]? = some a) : (l.take i).map f ++ [f a] = (l.take (i + 1)).map f := by
 rw [List.take_add_one, h, List.map_append]
 rfl
theorem FA {α β : Type} {l : List α} {i : Nat} {a : α} (f : α → List β) (h : l[i]? = some a) : (l.take i).flatMap f ++ f a = (l.take (i + 1)).flatMap f := by
 rw [List.take_add_one, h, List.flatMap_append]
 simp
theorem Qe {α β : Type} {l : List α} {f : α → β} {i : Nat} {b : β} (h : (l.map f)[i]? = some b) : ∃ a, l[i]? = some a ∧ f a = b := by
 rw [List.getElem?_map] at h
 cases q : l[i]? with
 | none => rw [q] at h; cases h
 | some a => rw [q] at h; exact ⟨a, rfl, by simpa using h⟩
theorem X1 {α β : Type} (f : α → List β) (n : Nat) : ∀ l : List α, (∀ a ∈ l, (f a).length ≤ n) → (l.flatMap f).length ≤ l.length * n
 | [], _ => by simp
 | a :: l, h => by
  have h1 := h a List.mem_cons_self
  have h2 := X1 f n l fun b hb => h b (List.mem_cons_of_mem _ hb)
  rw [List.flatMap_cons, List.length_append, List.length_cons, Nat.succ_mul]
  omega
noncomputable def gc (Φ : DK) : DK := fun x M => ∃ ps : List Addr, Φ x (ps.foldl K6 M)
theorem Zbi {K : PySem.W.Frag} {M : Mp} {H : Hp} {Φ : DK} {Q : VK} (k : Rch K M H Φ Q) {v : V} {H' : Hp} {x : DV} : ∀ (ps : List Addr) (M' : Mp), Z4 K M' H' → Step M H M' H' → QT K M' H' v x → Φ x (ps.foldl K6 M') → Q v H'
 | [], M', r, st, rv, f => k v H' x M' r st rv f
 | p :: ps, M', r, st, rv, f => Zbi k ps (K6 M' p) r.frz (st.trans Step.frz) (rv.step Step.frz) f
theorem O6 {K : PySem.W.Frag} {M : Mp} {H : Hp} {Φ : DK} {Q : VK} (k : Rch K M H Φ Q) : Rch K M H (gc Φ) Q := fun _ _ _ M' r st rv ⟨ps, f⟩ => Zbi k ps M' r st rv f
theorem okG {P : Program} {w : World} {K : PySem.W.Frag} {mg : Str → Option Value} {base : Heap} {x qual : Str} {st : Stmt} {f : Addr} {fd : FuncData} {N ps : List Str} {k : Nat} {S : DSp} (F : Fun K x qual st f fd) (Sc : Zt N ps (Zf st)) (len : ∀ xs M Φ, S xs M Φ → xs.length = ps.length)
  (hbody : ∀ (cdv : Value) (A : Around) (outer : List Env) (s : Shared) (H : Hp) (E : XK), Y8 k (A.deeper (envOfC qual (Zf st) s.heap.objs.size f cdv)) →
   ∃ τ, DSs (PB CX0 P w K mg base N qual (Zf st) f cdv A outer s H E).nox (Zq st) τ ∧ ∀ xs M Φ, S xs M Φ → τ { nx := fun _ M' => gc Φ (.dat .none) M', rt := gc Φ } (XH N xs) M) : ZE P w K mg base CX0 (k + 1) f fd ps (lift K S) := by
 refine F.ok Sc (fun vs H Q E h => ?_) fun cdv A outer s H vs Q E hr h => ?_
 ·obtain ⟨xs, M, Φ, _, rv, hs, _⟩ := h
  rw [Paired.length rv]
  exact len xs M Φ hs
 ·obtain ⟨xs, M, Φ, r, rv, hs, kk⟩ := h
  obtain ⟨τ, ⟨t, p, q⟩, hτ⟩ := hbody cdv A outer s H E hr
  refine ⟨t, p, q (start N vs) H (XH N xs) M _ _ r (JY.start rv) (hτ xs M Φ hs) ⟨fun σ' H' Δ' M' r' st' e' hn => ?_, O6 kk, fun _ _ _ _ _ _ _ h => h.elim, fun _ _ _ _ _ _ _ h => h.elim⟩⟩
  exact (O6 kk).dat r' st' Dt.non hn
theorem Tw {Φ : DK} {x : DV} {M : Mp} {p : Addr} {o : OO} (hp : M p = none) (h : Φ x M) : gc Φ x (Z3 M p o) := ⟨[p], by
 show Φ x (K6 (Z3 M p o) p)
 rw [YV hp]; exact h⟩
theorem Zdb {Φ : DK} {x : DV} {M : Mp} (h : Φ x M) : gc Φ x M := ⟨[], h⟩
theorem XZ {n k : Nat} (h : n < 2 ^ k) (hk : 0 < k) : n.log2 < k := by
 by_cases h0 : n = 0
 ·subst h0; simpa using hk
 ·exact (Nat.log2_lt h0).mpr h
noncomputable def Mid (i : Int) : Prop := -(10 ^ 70) ≤ i ∧ i ≤ 10 ^ 70
theorem Mid.show {i : Int} (h : Mid i) : (PyData.int i).showable = true := by
 have h1 : i.natAbs.log2 < 240 := XZ (by unfold Mid at h; omega) (by decide)
 simp only [PyData.showable, decide_eq_true_eq]
 omega
end DL
namespace DL
open PySem PySem.Spec PyProof.Rows L2
section
variable {X : Cx}
noncomputable def Zah : D1 := fun xs M Φ => ∃ ns : List Int, VG xs M ns ∧ Φ (.dat (.int ns.sum)) M
theorem Ky : ∀ {bs : List Bool} {us : List Value}, Vals (bs.map V.bl) us → ∀ (i : Nat) (v : Value), us[i]? = some v → ∃ b, bs[i]? = some b ∧ v = .bool b
 | [], _, r, i, v, e => by rw [List.map_nil] at r; cases r; simp at e
 | b :: bs, _, r, i, v, e => by
  rw [List.map_cons] at r
  cases r with
  | cons r1 r2 =>
   cases i with
   | zero =>
    simp at e
    subst e
    exact ⟨b, rfl, r1⟩
   | succ i => simpa using Ky r2 i v (by simpa using e)
theorem Eb (bs : List Bool) : ((List.range bs.length).all fun i => (bs[i]?).getD true) = bs.all id := by
 rw [Bool.eq_iff_iff, List.all_eq_true, List.all_eq_true]
 constructor
 ·intro h b hb
  obtain ⟨i, hi, e⟩ := List.getElem_of_mem hb
  have q := h i (List.mem_range.mpr hi)
  rw [List.getElem?_eq_getElem hi, Option.getD_some, e] at q
  exact q
 ·intro h i hi
  have hi' := List.mem_range.mp hi
  rw [List.getElem?_eq_getElem hi', Option.getD_some]
  exact h _ (List.getElem_mem hi')
theorem D4 (bs : List Bool) : ((List.range bs.length).any fun i => (bs[i]?).getD false) = bs.any id := by
 rw [Bool.eq_iff_iff, List.any_eq_true, List.any_eq_true]
 constructor
 ·rintro ⟨i, hi, e⟩
  have hi' := List.mem_range.mp hi
  rw [List.getElem?_eq_getElem hi', Option.getD_some] at e
  exact ⟨_, List.getElem_mem hi', e⟩
 ·rintro ⟨b, hb, e⟩
  obtain ⟨i, hi, rfl⟩ := List.getElem_of_mem hb
  exact ⟨i, List.mem_range.mpr hi, by rw [List.getElem?_eq_getElem hi, Option.getD_some]; exact e⟩
theorem UZ {s : Shared} {h' : Heap} {o : Obj} (hk : ∀ b x, b ∉ [s.heap.objs.size] → (s.heap.push o).get? b = some x → h'.get? b = some x) : ∀ b x, s.heap.get? b = some x → h'.get? b = some x :=
 fun b x e => hk b x (fun hm => absurd (Heap.lt_size e) (by rw [List.mem_singleton.mp hm]; exact Nat.lt_irrefl _)) (Heap.get?_push_of_some _ e)
theorem HE (hc : X.calm = true) : VI X (.builtin "all") (fun xs H Q => ∃ (p : Addr) (bs : List Bool), xs = [.ref p] ∧ SqL X.K H p (bs.map V.bl) ∧ Q (.bl (bs.all id)) H) := by
 intro pins s σ H xs us Q I r h
 obtain ⟨p, bs, rfl, hq, q⟩ := h
 obtain ⟨u, rfl, rx⟩ := vals1 r
 cases rx
 obtain ⟨its, rv, pl, hz⟩ := I.list hq
 have hl := pl.isList
 have hlt : p < s.heap.objs.size := by obtain ⟨_, e, _⟩ := hl; exact Heap.lt_size e
 refine call_all_walk (wpAny_pyIter_list hl ?_)
 refine ⟨s.heap.objs.size, [s.heap.objs.size, p], [s.heap.objs.size], its.toArray.size, _, _, fun i => (bs[i]?).getD true, rfl, Walks.list (A := X.A.in1) (I.ok.hd hc) _ p (Nat.ne_of_lt hlt) its.toArray,
  ⟨⟨_, Heap.get?_push_size _ rfl, rfl, rfl⟩, hl.push _⟩, fun i v s' Q' E' hP hQ => ?_, fun h' tk hk => ?_⟩
 ·obtain ⟨b, e, rfl⟩ := Ky rv i v (by simpa using hP)
  simp only [e, Option.getD_some] at hQ
  exact wpAny_truthy_bool hQ
 ·have e : ((List.range its.toArray.size).all fun i => (bs[i]?).getD true) = bs.all id := by
   have hln := rv.length
   rw [List.length_map] at hln
   rw [List.size_toArray, ← hln]; exact Eb bs
  rw [e]
  exact ⟨.bl _, H, I.kept (UZ hk), rfl, q⟩
theorem EL (hc : X.calm = true) : VI X (.builtin "any") (fun xs H Q => ∃ (p : Addr) (bs : List Bool), xs = [.ref p] ∧ SqL X.K H p (bs.map V.bl) ∧ Q (.bl (bs.any id)) H) := by
 intro pins s σ H xs us Q I r h
 obtain ⟨p, bs, rfl, hq, q⟩ := h
 obtain ⟨u, rfl, rx⟩ := vals1 r
 cases rx
 obtain ⟨its, rv, pl, hz⟩ := I.list hq
 have hl := pl.isList
 have hlt : p < s.heap.objs.size := by obtain ⟨_, e, _⟩ := hl; exact Heap.lt_size e
 refine call_any_walk (wpAny_pyIter_list hl ?_)
 refine ⟨s.heap.objs.size, [s.heap.objs.size, p], [s.heap.objs.size], its.toArray.size, _, _, fun i => (bs[i]?).getD false, rfl, Walks.list (A := X.A.in1) (I.ok.hd hc) _ p (Nat.ne_of_lt hlt) its.toArray,
  ⟨⟨_, Heap.get?_push_size _ rfl, rfl, rfl⟩, hl.push _⟩, fun i v s' Q' E' hP hQ => ?_, fun h' tk hk => ?_⟩
 ·obtain ⟨b, e, rfl⟩ := Ky rv i v (by simpa using hP)
  simp only [e, Option.getD_some] at hQ
  exact wpAny_truthy_bool hQ
 ·have e : ((List.range its.toArray.size).any fun i => (bs[i]?).getD false) = bs.any id := by
   have hln := rv.length
   rw [List.length_map] at hln
   rw [List.size_toArray, ← hln]; exact D4 bs
  rw [e]
  exact ⟨.bl _, H, I.kept (UZ hk), rfl, q⟩
theorem YB {K : PySem.W.Frag} {M : Mp} {H : Hp} : ∀ {vs : List V} {bs : List Bool}, Dts K M H vs (bs.map PyData.bool) → vs = bs.map V.bl
 | vs, [], h => by
  rw [List.map_nil] at h
  cases h
  rfl
 | vs, n :: ns, h => by
  rw [List.map_cons] at h
  cases h with
  | cons h1 h2 =>
   cases h1
   rw [YB h2, List.map_cons]
noncomputable def OT : D1 := fun xs M Φ => ∃ bs : List Bool, xs = [.dat (.list (bs.map PyData.bool))] ∧ Φ (.dat (.bool (bs.all id))) M
noncomputable def OV : D1 := fun xs M Φ => ∃ bs : List Bool, xs = [.dat (.list (bs.map PyData.bool))] ∧ Φ (.dat (.bool (bs.any id))) M
theorem Za9 (hc : X.calm = true) : VO X (.builtin "all") OT := by
 refine ⟨_, HE hc, fun vs H xs M Φ Q r rv h k => ?_⟩
 obtain ⟨bs, rfl, q⟩ := h
 obtain ⟨v, rfl, h1⟩ := Paired.one rv
 obtain ⟨p, ys, rfl, g1, g2⟩ := QT.lst h1
 rw [YB g2] at g1
 exact ⟨p, bs, rfl, g1.sq, k.dat r Step.refl (Dt.bl _) q⟩
theorem Zbf (hc : X.calm = true) : VO X (.builtin "any") OV := by
 refine ⟨_, EL hc, fun vs H xs M Φ Q r rv h k => ?_⟩
 obtain ⟨bs, rfl, q⟩ := h
 obtain ⟨v, rfl, h1⟩ := Paired.one rv
 obtain ⟨p, ys, rfl, g1, g2⟩ := QT.lst h1
 rw [YB g2] at g1
 exact ⟨p, bs, rfl, g1.sq, k.dat r Step.refl (Dt.bl _) q⟩
noncomputable def TQ : D1 := fun xs M Φ => on1 xs fun x => onB x fun b => Φ (.dat (.int (if b = true then 1 else 0))) M
noncomputable def ZfJ (i j : Nat) (ta : DTA) : DTS := fun D Δ M => ta Δ M fun xs M1 => on2 xs fun x y => D.nx ((Δ.set i (some x)).set j (some y)) M1
noncomputable def OP (x : DV) (M : Mp) (ds : List PyData) : Prop := x = .dat (.list ds) ∨ ∃ l, x = .own l ∧ M l = some (.lst ds)
theorem OP.sq {x : DV} {M : Mp} {H : Hp} {v : V} {ds : List PyData} (h : OP x M ds) (r : Z4 X.K M H) (rv : QT X.K M H v x) : ∃ p ys, v = .ref p ∧ SqL X.K H p ys ∧ Dts X.K M H ys ds := by
 rcases h with rfl | ⟨l, rfl, hm⟩
 ·obtain ⟨p, ys, rfl, g1, g2⟩ := QT.lst rv
  exact ⟨p, ys, rfl, g1.sq, g2⟩
 ·cases (show v = .ref l from rv)
  obtain ⟨ws, g1, g2⟩ := r.ls l _ hm
  exact ⟨l, ws, rfl, SqL.of g1, g2⟩
noncomputable def O3 : D2 := fun x y M Φ => onK x M fun ds => onK y M fun es => ds.length + es.length ≤ sizeLine ∧ Φ (.dat (.list (ds ++ es))) M
theorem Xw : OpD X (binaryOp .Add) O3 := by
 refine ⟨_, CS, fun v u H x y M Φ Q r rv ru h k => ?_⟩
 replace h := Wn h
 obtain ⟨ds, hx, h⟩ := h
 replace h := Wn h
 obtain ⟨es, hy, hz, q⟩ := h
 replace hx : OP x M ds := hx
 replace hy : OP y M es := hy
 obtain ⟨a, xs, rfl, h1, h2⟩ := hx.sq r rv
 obtain ⟨b, ys, rfl, h3, h4⟩ := hy.sq r ru
 exact ⟨a, b, xs, ys, rfl, rfl, h1, h3, by rw [h2.length, h4.length]; exact hz, fun p hp => k.dat (r.new hp) (Step.new hp) (Dt.XI r hp (h2.append h4)) q⟩
noncomputable def Zfv (te : DTE) (tl th : DTO) : DTE := fun Δ M Φ => te Δ M fun x M1 => tl Δ M1 fun l M2 => th Δ M2 fun u M3 => onK x M3 fun ds => Φ (.dat (.list (cutD ds l u))) M3
noncomputable def Zgg (lo : Int) (n : Nat) : List V := (List.range n).map fun (i : Nat) => V.int (lo + (i : Int))
noncomputable def RL (ta : DTA) : DTE := fun Δ M Φ => ta Δ M fun xs M1 => on2 xs fun x y => onI x fun i => onI y fun j => (InR i ∧ InR j) ∧ (j - i).toNat ≤ 16777216 ∧ Φ (.dat (.list (Wo i (j - i).toNat))) M1
noncomputable def Zfo (i : Nat) (te : DTE) (f : Int → Int → Int) : DTS := fun D Δ M => onV Δ[i]? fun z => onI z fun a => te Δ M fun x M1 => onI x fun b => D.nx (Δ.set i (some (.dat (.int (f a b))))) M1
end
end DL
namespace DL
open PySem PySem.Spec PyProof.Rows L2
noncomputable def Tj (h : Heap) (v : Value) (q : Int × Int) : Prop := ∃ a o n t u, v = .ref a ∧ h.get? a = some o ∧ o.cls = .type "tuple" ∧ o.data = .seq #[.int q.1 t, .int q.2 u] n
theorem Tj.keep {h h' : Heap} {v : Value} {q : Int × Int} (p : Tj h v q) (k : ∀ b o, h.get? b = some o → h'.get? b = some o) : Tj h' v q := by
 obtain ⟨a, o, n, t, u, e, g, c, d⟩ := p
 exact ⟨a, o, n, t, u, e, k _ _ g, c, d⟩
noncomputable def ltP (p q : Int × Int) : Bool := if p.1 = q.1 then decide (p.2 < q.2) else decide (p.1 < q.1)
theorem get_none {h : Heap} {b : Addr} (hb : h.objs.size ≤ b) : h.get? b = none := by
 cases q : h.get? b with
 | none => rfl
 | some o => exact absurd (Heap.lt_size q) (Nat.not_lt.mpr hb)
theorem ES (p : Int × Int) : ltP p p = false := by unfold ltP; rw [if_pos rfl]; exact decide_eq_false (by omega)
theorem Zad {p q r : Int × Int} (h1 : ltP r q = false) (h2 : ltP p q = true) : ltP r p = false := by
 unfold ltP at *
 split at h1 <;> split at h2 <;> split <;> simp only [decide_eq_false_iff_not, decide_eq_true_eq] at * <;> omega
theorem WD (f : Nat → Int × Int) : ∀ k, argBest (fun i j => ltP (f i) (f j)) k ≤ k ∧ ∀ j, j ≤ k → ltP (f j) (f (argBest (fun i j => ltP (f i) (f j)) k)) = false
 | 0 => ⟨Nat.le_refl _, fun j hj => by rw [show j = 0 by omega]; exact ES _⟩
 | k + 1 => by
  have ih := WD f k
  unfold argBest
  split
  ·rename_i c
   refine ⟨Nat.le_refl _, fun j hj => ?_⟩
   by_cases e : j = k + 1
   ·rw [e]; exact ES _
   ·exact Zad (ih.2 j (by omega)) c
  ·rename_i c
   refine ⟨by omega, fun j hj => ?_⟩
   by_cases e : j = k + 1
   ·rw [e]; exact Bool.of_not_eq_true c
   ·exact ih.2 j (by omega)
theorem sub_tt : isSubtype (.type "tuple") (.type "tuple") = pure true := by rw [isSubtype_type]; kernel_rfl
section
variable {prog : Program} {w : World} {A : Around} {E : Value → Shared → Prop} {s : Shared}
theorem O7 {M : Model} {a : Addr} {o : Obj} {items n} {Q : Array Value → Shared → Prop} (ho : s.heap.get? a = some o) (hd : o.data = .seq items n) (h : Q items s) : wpAny M A (Builtin.Tuple.tupleItemsOf (.ref a)) Q E s := by
 unfold Builtin.Tuple.tupleItemsOf
 exact wpAny_bind (wpAny_seqItems ho hd (wpAny_pure h))
theorem WQ {p q : Int × Int} {a b : Addr} {oa ob : Obj} {na nb : Nat} {t1 t2 u1 u2 : Tok} {P : Fin → Shared → Prop} (ha : s.heap.get? a = some oa) (da : oa.data = .seq #[.int p.1 t1, .int p.2 t2] na)
  (hb : s.heap.get? b = some ob) (cb : ob.cls = .type "tuple") (db : ob.data = .seq #[.int q.1 u1, .int q.2 u2] nb) (h : P (.done (.ret (.bool (ltP p q)))) s) :
  wpAny (model prog w) A (Builtin.«tuple.__lt__» ⟨[.ref a, .ref b], []⟩) P E s := by
 have hT : s.TypeIs (.ref b) "tuple" := ⟨ob, hb, cb⟩
 show wpAny _ _ (isInstance (.ref b) (.type "tuple") >>= _) _ _ s
 refine wpAny_bind (wpAny_isInstance hT sub_tt ?_)
 simp only [Bool.not_true, Bool.false_eq_true, if_false]
 refine wpAny_bind (O7 ha da (wpAny_bind (O7 hb db (wpAny_bind ?_))))
 show wpAny _ _ (forIn [(Value.int p.1 t1, Value.int q.1 u1), (Value.int p.2 t2, Value.int q.2 u2)] _ _) _ _ s
 rw [List.forIn_cons]
 refine wpAny_bind (wpAny_bind (wpAny_eqBool_int ?_))
 unfold ltP at h
 by_cases e1 : p.1 = q.1
 ·rw [if_pos e1] at h
  rw [show (p.1 == q.1) = true from beq_iff_eq.mpr e1]
  simp only [Bool.not_true, Bool.false_eq_true, if_false]
  refine wpAny_pure ?_
  show wpAny _ _ (forIn [(Value.int p.2 t2, Value.int q.2 u2)] (none, ()) _) _ _ s
  rw [List.forIn_cons]
  refine wpAny_bind (wpAny_bind (wpAny_eqBool_int ?_))
  by_cases e2 : p.2 = q.2
  ·rw [show (p.2 == q.2) = true from beq_iff_eq.mpr e2]
   simp only [Bool.not_true, Bool.false_eq_true, if_false]
   refine wpAny_pure ?_
   show wpAny _ _ (forIn [] (none, ()) _) _ _ s
   rw [List.forIn_nil]
   refine wpAny_pure ?_
   rw [decide_eq_false (by omega)] at h
   exact wpAny_pure h
  ·rw [show (p.2 == q.2) = false from beq_eq_false_iff_ne.mpr e2]
   simp only [Bool.not_false, if_true]
   exact wpAny_bind (wpAny_rule (wpAny_bind (wpAny_lt_int (wpAny_bind (wpAny_pure (wpAny_pure (wpAny_pure (wpAny_pure h))))))))
 ·rw [if_neg e1] at h
  rw [show (p.1 == q.1) = false from beq_eq_false_iff_ne.mpr e1]
  simp only [Bool.not_false, if_true]
  exact wpAny_bind (wpAny_rule (wpAny_bind (wpAny_lt_int (wpAny_bind (wpAny_pure (wpAny_pure (wpAny_pure (wpAny_pure h))))))))
theorem N1 {p q : Int × Int} {v u : Value} {Q : Value → Shared → Prop} (hu : A.units < cLine) (hv : Tj s.heap v p) (hw : Tj s.heap u q) (h : Q (.bool (ltP p q)) s) : wpAny (model prog w) A (richCompare .Lt v u) Q E s := by
 obtain ⟨a, oa, na, t1, t2, rfl, ha, ca, da⟩ := hv
 obtain ⟨b, ob, nb, u1, u2, rfl, hb, cb, db⟩ := hw
 have hTa : s.TypeIs (.ref a) "tuple" := ⟨oa, ha, ca⟩
 have hTb : s.TypeIs (.ref b) "tuple" := ⟨ob, hb, cb⟩
 exact wpAny_richCompare_same_room (op := .Lt) hTa hTb F.slot_tuple_lt (wpAny_call_entry F.slot_tuple_lt hTa F.entry_tuple_lt (WQ ha da hb cb db ⟨_, rfl, (fun z => nomatch z), h⟩) (F.args_tuple_lt_2 _ _)) hu
end
section
variable {prog : Program} {w : World} {A : Around} {R : Result → Shared → Prop} {I : Addr} {fp wr : List Addr} {n : Nat} {P : Nat → Value → Prop} {St : Nat → Heap → Prop}
noncomputable def ZaR (prog : Program) (w : World) (A : Around) (h0 : Heap) (P : Nat → Value → Prop) (bt : Nat → Nat → Bool) : Prop :=
 ∀ i j x y (s : Shared) (Q : Value → Shared → Prop) (E : Value → Shared → Prop), (∀ b o, h0.get? b = some o → s.heap.get? b = some o) → P i x → P j y → Q (.bool (bt i j)) s → wpAny (model prog w) A (richCompare .Lt x y) Q E s
theorem V8 : (toString "min" ++ toString ".loop" : String) = "min.loop" := by decide
theorem Ba {kw : List (Str × Value)} {h0 : Heap} {bt : Nat → Nat → Bool} (C : ZaR prog w A.in1 h0 P bt) (W : Walks prog w A.in1 I fp wr n P St) {S : Addr} (hSf : S ∉ fp) (nS : h0.get? S = none) (nw : ∀ b ∈ wr, h0.get? b = none) :
  ∀ (k j : Nat) (s : Shared) (best : Value) (c : Nat), n - (j + 1) = k → j + 1 ≤ n → (∀ b o, h0.get? b = some o → s.heap.get? b = some o) → St (j + 1) s.heap → P (argBest bt j) best → s.heap.get? S = some { cls := .type "list", dict := none, data := .seq #[best, best] c, slots := #[] } →
   (∀ v h' tk, P (argBest bt (n - 1)) v → (∀ b o, h0.get? b = some o → h'.get? b = some o) → R (.ok (.ret v)) { s with heap := h', toks := tk }) →
   codeAny (model prog w) A (.builtin "min.loop" ⟨[.ref I, .none, .ref S], kw⟩) R s := by
 have hSw : S ∉ wr := fun z => hSf (W.sub _ z)
 have old : ∀ {b : Addr} {o : Obj}, h0.get? b = some o → b ∉ wr ∧ b ≠ S := fun {b o} e => ⟨fun z => (by rw [nw b z] at e; cases e), fun z => (by rw [z, nS] at e; cases e)⟩
 intro k
 induction k with
 | zero =>
  intro j s best c hk hj h0s hst hPb hS hR
  obtain rfl : j + 1 = n := by omega
  refine codeAny_builtin F.entry_min_loop ?_
  rw [Around.under_plainId F.plain_min_loop _]
  show wpAny _ A.in1 (seqItems? (.ref S) >>= _) _ _ s
  refine wpAny_bind (wpAny_seqItems hS rfl ?_)
  show wpAny _ A.in1 (tryCatch (pyNext (.ref I)) _ >>= _) _ _ s
  refine wpAny_bind (wpAny_tryCatch (W.done s _ _ hst fun h' tk keep => ?_))
  have hS' := keep S _ hSw hS
  show wpAny _ A.in1 (updateSeq S (fun _ => #[]) >>= _) _ _ _
  refine wpAny_bind (wpAny_updateSeq hS' rfl (wpAny_bind (wpAny_letGo (wpAny_pure ?_))))
  exact hR best _ tk hPb fun b o e => (Heap.get?_update_other _ _ (Ne.symm (old e).2)).trans (keep b o (old e).1 (h0s b o e))
 | succ k ih =>
  intro j s best c hk hj h0s hst hPb hS hR
  have hlt : j + 1 < n := by omega
  refine codeAny_builtin F.entry_min_loop ?_
  rw [Around.under_plainId F.plain_min_loop _]
  show wpAny _ A.in1 (seqItems? (.ref S) >>= _) _ _ s
  refine wpAny_bind (wpAny_seqItems hS rfl ?_)
  show wpAny _ A.in1 (tryCatch (pyNext (.ref I)) _ >>= _) _ _ s
  refine wpAny_bind (wpAny_tryCatch (W.item (j + 1) s _ _ hlt hst fun v h' tk hP hst' keep => ?_))
  have hS' := keep S _ hSw hS
  have h0' : ∀ b o, h0.get? b = some o → h'.get? b = some o := fun b o e => keep b o (old e).1 (h0s b o e)
  show wpAny _ A.in1 (tryCatch (holding [v, v] (richCompare .Lt v best >>= _)) _ >>= _) _ _ _
  refine wpAny_bind (wpAny_tryCatch (wpAny_holding (wpAny_bind (C (j + 1) (argBest bt j) v best _ _ _ h0' hP hPb ?_))))
  refine wpAny_bind (wpAny_holding (wpAny_truthy_bool (wpAny_bind (wpAny_letGo (wpAny_pure ?_)))))
  cases q : bt (j + 1) (argBest bt j) with
  | true =>
   simp only [if_true]
   refine wpAny_bind (wpAny_updateSeq hS' rfl (wpAny_bind (wpAny_letGo ?_)))
   rw [V8]
   refine wpAny_pure ⟨plainId_quiet F.plain_min_loop _, ih (j + 1) _ v _ (by omega) hlt (fun b o e => (Heap.get?_update_other _ _ (Ne.symm (old e).2)).trans (h0' b o e)) (W.frame _ _ _ hst' fun b m o e => ?_) (by simp only [argBest, q, if_true]; exact hP) (Heap.get?_update_self _ hS' rfl) fun v' h'' tk'' hP' hk'' => hR v' h'' tk'' hP' hk''⟩
   exact (Heap.get?_update_other _ _ (fun z : S = b => hSf (by rw [z]; exact m))).trans e
  | false =>
   simp only [Bool.false_eq_true, if_false]
   refine wpAny_bind (wpAny_letGo ?_)
   rw [V8]
   exact wpAny_pure ⟨plainId_quiet F.plain_min_loop _, ih (j + 1) _ best c (by omega) hlt h0' hst' (by simp only [argBest, q, Bool.false_eq_true, if_false]; exact hPb) hS' fun v' h'' tk'' hP' hk'' => hR v' h'' tk'' hP' hk''⟩
end
section
variable {prog : Program} {w : World} {A : Around} {E : Value → Shared → Prop} {s : Shared}
theorem DH {x : Value} {Q : Value → Shared → Prop} {h0 : Heap}
  (h : wpAny (model prog w) A.in1 (pyIter x) (fun it s2 => ∃ I fp wr n P St bt, it = .ref I ∧ Walks prog w A.in1 I fp wr n P St ∧ St 0 s2.heap ∧ (∀ b ∈ fp, b < s2.heap.objs.size) ∧ (∀ b ∈ wr, h0.get? b = none) ∧ (∀ b o, h0.get? b = some o → s2.heap.get? b = some o) ∧ h0.get? s2.heap.objs.size = none ∧ 0 < n ∧ ZaR prog w A.in1 h0 P bt ∧
   ∀ v h' tk, P (argBest bt (n - 1)) v → (∀ b o, h0.get? b = some o → h'.get? b = some o) → Q v { s2 with heap := h', toks := tk }) E s) : wpAny (model prog w) A (call (.builtin "min") [x]) Q E s := by
 refine call_function_tree F.kind_min F.plain_min F.entry_min (F.args_min1 _) ?_
 show wpAny _ A.in1 (Builtin.Builtins.bindParams "min" ["key", "default"] 0 ⟨[], []⟩ >>= _) _ _ s
 refine wpAny_bind (wpAny_of_eq (show Builtin.Builtins.bindParams "min" ["key", "default"] 0 ⟨[], []⟩ = pure [none, none] from rfl) (wpAny_bind (wpAny_pure ?_)))
 refine wpAny_bind (wpAny_mono h (fun it s2 h2 => ?_) fun _ _ z => z)
 obtain ⟨I, fp, wr, n, P, St, bt, rfl, W, hst, hfp, nw, h0s, nS, hn, C, hQ⟩ := h2
 refine wpAny_bind (wpAny_newObj_type ?_)
 have hSf : s2.heap.objs.size ∉ fp := fun z => Nat.lt_irrefl _ (hfp _ z)
 have hSw : s2.heap.objs.size ∉ wr := fun z => hSf (W.sub _ z)
 have old : ∀ {b : Addr} {o : Obj}, h0.get? b = some o → b ∉ wr ∧ b ≠ s2.heap.objs.size := fun {b o} e => ⟨fun z => (by rw [nw b z] at e; cases e), fun z => (by rw [z, nS] at e; cases e)⟩
 rw [V8]
 refine wpAny_pure ⟨plainId_quiet F.plain_min_loop _, ?_⟩
 refine codeAny_builtin F.entry_min_loop ?_
 rw [Around.under_plainId F.plain_min_loop _]
 show wpAny _ A.in1 (seqItems? (.ref s2.heap.objs.size) >>= _) _ _ _
 refine wpAny_bind (wpAny_seqItems (Heap.get?_push_size _ rfl) rfl ?_)
 show wpAny _ A.in1 (tryCatch (pyNext (.ref I)) _ >>= _) _ _ _
 refine wpAny_bind (wpAny_tryCatch (W.item 0 _ _ _ hn (W.frame _ _ _ hst fun b _ o e => Heap.get?_push_of_some _ e) fun v h' tk hP hst' keep => ?_))
 have hS' := keep s2.heap.objs.size _ hSw (Heap.get?_push_size _ rfl)
 show wpAny _ A.in1 (updateSeq s2.heap.objs.size (fun _ => #[v, v]) >>= _) _ _ _
 refine wpAny_bind (wpAny_updateSeq hS' rfl ?_)
 rw [V8]
 refine wpAny_pure ⟨plainId_quiet F.plain_min_loop _, Ba C W hSf nS nw _ 0 _ v _ rfl hn (fun b o e => (Heap.get?_update_other _ _ (Ne.symm (old e).2)).trans (keep b o (old e).1 (Heap.get?_push_of_some _ (h0s b o e)))) (W.frame _ _ _ hst' fun b m o e => ?_) hP (Heap.get?_update_self _ hS' rfl) fun v' h'' tk'' hP' hk'' => hQ v' h'' tk'' hP' hk''⟩
 exact (Heap.get?_update_other _ _ (fun z : s2.heap.objs.size = b => hSf (by rw [z]; exact m))).trans e
theorem Bk {l : Addr} {its : Array Value} {qs : List (Int × Int)} {Q : Value → Shared → Prop} (hh : A.handled = none) (hu : A.in1.units < cLine) (hl : s.heap.IsList l its) (hz : its.size = qs.length) (hne : 0 < qs.length)
  (hq : ∀ i v, its[i]? = some v → Tj s.heap v (qs.getD i (0, 0)))
  (h : ∀ i v h' tk, its[i]? = some v → i < qs.length → (∀ j, j < qs.length → ltP (qs.getD j (0, 0)) (qs.getD i (0, 0)) = false) → (∀ b o, s.heap.get? b = some o → h'.get? b = some o) → Q v { s with heap := h', toks := tk }) :
  wpAny (model prog w) A (call (.builtin "min") [.ref l]) Q E s := by
 have hlt : l < s.heap.objs.size := by obtain ⟨_, e, _⟩ := hl; exact Heap.lt_size e
 refine DH (h0 := s.heap) (wpAny_pyIter_list hl ?_)
 refine ⟨s.heap.objs.size, [s.heap.objs.size, l], [s.heap.objs.size], its.size, _, _, fun i j => ltP (qs.getD i (0, 0)) (qs.getD j (0, 0)), rfl, Walks.list (A := A.in1) hh _ l (Nat.ne_of_lt hlt) its, ⟨⟨_, Heap.get?_push_size _ rfl, rfl, rfl⟩, hl.push _⟩, fun b hb => ?_, fun b hb => ?_, fun b o e => Heap.get?_push_of_some _ e, ?_, by omega, fun i j x y s' Q' E' old hx hy hQ => ?_, fun v h' tk hP keep => ?_⟩
 ·show b < (s.heap.push _).objs.size
  rw [Heap.size_push]
  rcases List.mem_cons.mp hb with rfl | hb
  ·exact Nat.lt_succ_self _
  ·rw [List.mem_singleton.mp hb]
   exact Nat.lt_succ_of_lt hlt
 ·rw [List.mem_singleton.mp hb]
  exact get_none (Nat.le_refl _)
 ·show s.heap.get? (s.heap.push _).objs.size = none
  rw [Heap.size_push]
  exact get_none (Nat.le_succ _)
 ·exact N1 hu ((hq i x hx).keep old) ((hq j y hy).keep old) hQ
 ·have b := WD (fun i => qs.getD i (0, 0)) (its.size - 1)
  exact h _ v h' tk hP (by omega) (fun j hj => b.2 j (by omega)) keep
end
section
variable {X : Cx}
noncomputable def Zam (i j : Int) : Prop := 0 < j ∧ j.natAbs.log2 < 9000
theorem MC : OpR X (binaryOp .FloorDiv) (rI Zam fun i j => .int (i / j)) := opI fun i j _ _ _ _ _ hc q => by
 have h1 : (0 : Int) < j := hc.1
 exact floordiv_int (by omega) (by rw [Int.fdiv_eq_ediv_of_nonneg i (by omega)]; exact q) (.inl (PyProof.noPylong_of_log2 hc.2))
theorem CL : OpD X (binaryOp .FloorDiv) (δI Zam fun i j => .int (i / j)) := TR MC
theorem Vals.back {xs : List V} {us : List Value} {i : Nat} {u : Value} (r : Vals xs us) (e : us[i]? = some u) : ∃ x, xs[i]? = some x ∧ RelV x u := by
 cases q : xs[i]? with
 | none => rw [r.none_of q] at e; cases e
 | some x =>
  obtain ⟨u', e', h⟩ := r.get q
  rw [e] at e'
  cases e'
  exact ⟨x, rfl, h⟩
theorem Hj (hc : X.calm = true) (hu : X.A.in1.units < cLine) : VI X (.builtin "min") (fun xs H Q => ∃ (p : Addr) (vs : List V) (qs : List (Int × Int)), xs = [.ref p] ∧ SqL X.K H p vs ∧ vs.length = qs.length ∧ (∀ (i : Nat) (q : Int × Int), qs[i]? = some q → ∃ a : Addr, vs[i]? = some (V.ref a) ∧ SqT X.K H a [.int q.1, .int q.2]) ∧ 0 < qs.length ∧
  ∀ (i : Nat) (q : Int × Int) (v : V), qs[i]? = some q → vs[i]? = some v → (∀ r ∈ qs, ltP r q = false) → Q v H) := by
 intro pins s σ H xs us Q I r h
 obtain ⟨p, vs, qs, rfl, hq, hz, hp, h0, q⟩ := h
 obtain ⟨u, rfl, rx⟩ := vals1 r
 cases rx
 obtain ⟨its, rv, pl, _⟩ := I.list hq
 have hlen := rv.length
 have get : ∀ i, i < qs.length → qs[i]? = some (qs.getD i (0, 0)) := fun i hi => by rw [List.getElem?_eq_getElem hi, List.getD_eq_getElem?_getD, List.getElem?_eq_getElem hi]; rfl
 refine Bk (I.ok.hd hc) hu pl.isList (by rw [List.size_toArray, ← hlen]; exact hz) h0 (fun i v hv => ?_) fun i v h' tk hv hi hm hk => ?_
 ·have hv' : its[i]? = some v := by simpa using hv
  have hi : i < qs.length := by
   have := (List.getElem?_eq_some_iff.mp hv').1
   omega
  obtain ⟨a, e, sq⟩ := hp i _ (get i hi)
  obtain ⟨w', e', rl⟩ := rv.get e
  rw [hv'] at e'
  cases e'
  cases (show v = .ref a from rl)
  obtain ⟨jts, rt, ⟨o, eo, co, n, d⟩, _⟩ := I.tuple sq
  obtain ⟨x1, x2, rfl, ⟨t1, rfl⟩, ⟨t2, rfl⟩⟩ := Vals.two rt
  exact ⟨a, o, n, t1, t2, rfl, eo, co, d⟩
 ·have hv' : its[i]? = some v := by simpa using hv
  obtain ⟨x, e, rl⟩ := Vals.back rv hv'
  refine ⟨x, H, I.kept hk, rl, q i _ x (get i hi) e fun r hr => ?_⟩
  obtain ⟨j, hj, rfl⟩ := List.getElem_of_mem hr
  have := hm j hj
  rwa [List.getD_eq_getElem?_getD, List.getElem?_eq_getElem hj] at this
noncomputable def prD (q : Int × Int) : PyData := .tuple [.int q.1, .int q.2]
noncomputable def O4 : D1 := fun xs M Φ => ∃ qs : List (Int × Int), xs = [.dat (.list (qs.map prD))] ∧ 0 < qs.length ∧ ∀ q ∈ qs, (∀ r ∈ qs, ltP r q = false) → Φ (.dat (prD q)) M
theorem Ln {k : Nat} (hr : Y8 k X.A) (hc : X.calm = true) : VO X (.builtin "min") O4 := by
 refine ⟨_, Hj hc (by have := hr.un; show X.A.units + 1 < _; omega), fun vs H xs M Φ Q r rv h k => ?_⟩
 obtain ⟨qs, rfl, h0, q⟩ := h
 obtain ⟨v, rfl, h1⟩ := Paired.one rv
 obtain ⟨p, ys, rfl, g1, g2⟩ := QT.lst h1
 refine ⟨p, ys, qs, rfl, g1.sq, by rw [g2.length, List.length_map], fun i q' e => ?_, h0, fun i q' v e ev hm => ?_⟩
 ·obtain ⟨v, ev, d⟩ := g2.get (i := i) (d := prD q') (by rw [List.getElem?_map, e]; rfl)
  cases d with
  | tup t1 t2 =>
   cases t2 with
   | cons a b =>
    cases a
    cases b with
    | cons a b =>
     cases a
     cases b
     exact ⟨_, ev, t1.sq⟩
 ·obtain ⟨v', ev', d⟩ := g2.get (i := i) (d := prD q') (by rw [List.getElem?_map, e]; rfl)
  rw [ev] at ev'
  cases ev'
  exact k.dat r Step.refl d (q q' (List.mem_of_getElem? e) hm)
end
end DL
namespace DL
open PySem PySem.Spec PyProof.Rows L2
noncomputable def PH {α : Type} [DecidableEq α] (ks : List α) (k : α) : Bool := decide (k ∈ ks)
theorem L9 {α : Type} [DecidableEq α] {ks : List α} {k : α} : PH ks k = true ↔ k ∈ ks := by
 unfold PH
 rw [decide_eq_true_eq]
theorem Gq {α : Type} [DecidableEq α] (kvs : List (α × V)) (k : α) : (UY kvs k).isSome = decide (k ∈ kvs.map (·.1)) := by
 rw [← X2, Bool.eq_iff_iff, List.any_eq_true, decide_eq_true_eq, List.mem_map]
 constructor
 ·rintro ⟨x, hx, e⟩
  exact ⟨x, hx, of_decide_eq_true e⟩
 ·rintro ⟨x, hx, e⟩
  exact ⟨x, hx, decide_eq_true e⟩
noncomputable def LJ {α : Type} [DecidableEq α] (ks : List α) (k : α) : List α := if k ∈ ks then ks else ks ++ [k]
theorem La {α : Type} [DecidableEq α] (kvs : List (α × V)) (k : α) (v : V) : (putK kvs k v).map (·.1) = LJ (kvs.map (·.1)) k := by
 have e := Gq kvs k
 rw [← X2] at e
 unfold putK LJ
 rw [e]
 by_cases h : k ∈ kvs.map (·.1)
 ·rw [decide_eq_true h, if_pos rfl, if_pos h, List.map_map]
  refine List.map_congr_left fun x _ => ?_
  show (if x.1 = k then (x.1, v) else x).1 = x.1
  split <;> rfl
 ·rw [decide_eq_false h, if_neg Bool.false_ne_true, if_neg h, List.map_append]
  rfl
theorem Ot {α : Type} [DecidableEq α] {ks : List α} {k x : α} : x ∈ LJ ks k ↔ x ∈ ks ∨ x = k := by
 unfold LJ
 split
 ·rename_i h
  constructor
  ·exact .inl
  ·rintro (z | rfl)
   ·exact z
   ·exact h
 ·rw [List.mem_append, List.mem_singleton]
theorem Ng {α : Type} [DecidableEq α] (ks : List α) (k : α) : (LJ ks k).length ≤ ks.length + 1 := by
 unfold LJ
 split
 ·omega
 ·rw [List.length_append, List.length_singleton]
  exact Nat.le_refl _
section
variable {X : Cx}
noncomputable def Hy : DTE := fun _ M Φ => ∀ p, M p = none → Φ (.own p) (Z3 M p (.dct []))
theorem H0 {pos : Pos} : DE X (.Dict [] [] pos) Hy :=
 ⟨_, Nl, fun _ _ _ _ _ _ r _ h k p hp => k _ _ (.own p) _ (r.O5 (Step.Yg hp) rfl) (Step.Yg hp) rfl (h p (r.tracked hp))⟩
noncomputable def kP (i j : Int) : List Key := [.inl i, .inl j]
noncomputable def Zca (td : DTE) (ta : DTA) (tv : DTE) : DTS := fun D Δ M => tv Δ M fun x M1 => td Δ M1 fun y M2 => ta Δ M2 fun zs M3 => onD x fun _ => onO y fun l => on2 zs fun p q => onI p fun i => onI q fun j => Nv (M3 l) fun ks => ks.length < sizeLine ∧ D.nx Δ (Z3 M3 l (.dct (LJ ks (kP i j))))
theorem P2 {k : Nat} {o value : Expr} {es : List Expr} {td tv : DTE} {ta : DTA} {kt} {pt pos' pos : Pos} (hr : Y8 k X.A) (ho : DE X o td) (hi : DA X es ta) (hv : DE X value tv)
  (hs : autoParam (swapsWith value (some (.Subscript o (.Tuple es kt pt) pos')) pos.line X.env = pure false) zz3._auto_1) : DS X (.Assign [.Subscript o (.Tuple es kt pt) pos'] value pos) (Zca td ta tv) := by
 obtain ⟨t1, p1, q1⟩ := hv
 obtain ⟨t2, p2, q2⟩ := ho
 obtain ⟨t3, p3, q3⟩ := hi
 refine ⟨_, SF (by have := hr.un; omega) p2 (PN p3) p1 hs, fun σ H Δ M D E r e h k => ?_⟩
 refine q1 σ H Δ M _ _ r e h fun v H1 x M1 r1 st1 rv hx => ?_
 refine q2 σ H1 Δ M1 _ _ r1 (e.step st1) hx fun w H2 y M2 r2 st2 rw2 hy => ?_
 refine q3 σ H2 Δ M2 _ _ r2 (e.step (st1.trans st2)) hy fun vs H3 zs M3 r3 st3 rvs hz => ?_
 replace hz := Qo hz
 obtain ⟨d, rfl, hz⟩ := hz
 replace hz := Jm hz
 obtain ⟨l, rfl, hz⟩ := hz
 replace hz := Zz hz
 obtain ⟨zi, zj, rfl, hz⟩ := hz
 replace hz := ZO hz
 obtain ⟨i, rfl, hz⟩ := hz
 replace hz := ZO hz
 obtain ⟨j, rfl, hz⟩ := hz
 replace hz := Hm hz
 obtain ⟨ks, hm, hl, hn⟩ := hz
 obtain ⟨a, b, rfl, ha, hb⟩ := Paired.two rvs
 cases (show a = .int i from QT.int ha)
 cases (show b = .int j from QT.int hb)
 cases (show w = .ref l from rw2)
 refine ⟨by rw [sizeLine_eq]; show 2 ≤ 16777216; decide, fun p hp => ?_⟩
 obtain ⟨kvs, g1, g2⟩ := r3.dc l ks hm
 have hne : l ≠ p := ZJ g1 hp
 have g1' : upd H3 p (.tup [.int i, .int j]) l = some (.dT kvs) := by rw [ZW hne]; exact g1
 refine ⟨l, _, rfl, PL.t (k := kP i j) g1' Jx (by rw [← g2, List.length_map] at hl; exact hl), ?_⟩
 have r4 : Z4 X.K M3 (upd H3 p (.tup [.int i, .int j])) := r3.new hp
 have st4 : Step M3 H3 M3 (upd H3 p (.tup [.int i, .int j])) := Step.new hp
 have st5 : Step M3 (upd H3 p (.tup [.int i, .int j])) (Z3 M3 l (.dct (LJ ks (kP i j)))) (upd (upd H3 p (.tup [.int i, .int j])) l (.dT (putK kvs (kP i j) v))) := Step.Gs hm
 have stA := st1.trans (st2.trans (st3.trans (st4.trans st5)))
 exact k.nx _ _ _ _ (r4.O5 st5 (by rw [La, g2])) stA (e.step stA) hn
theorem Tu {pins : List (Addr × Obj)} {σ : L2.St} {H : Hp} {s : Shared} {b : Addr} {ks : List Key} (I : L2.Inv X pins σ H s) (h : SqT X.K H b (ks.map kV)) : (tupleKind (Qx X.prog X.w)).is s.heap ks b := by
 obtain ⟨its, r, ⟨o, e, c, n, d⟩, _⟩ := I.tuple h
 exact ⟨o, its.toArray, n, e, c, d, by simpa using Kd r⟩
theorem Zbk (hu : X.A.units + 1 < cLine) : OpR X (compareOp .In) (fun x y H Q => ∃ a b kvs k, x = .ref b ∧ y = .ref a ∧ H a = some (.dT kvs) ∧ SqT X.K H b (k.map kV) ∧ Q (.bl (UY kvs k).isSome) H) := by
 intro pins s σ H x y v u Q I rx ry h
 obtain ⟨a, b, kvs, k, rfl, rfl, ha, hb, q⟩ := h
 cases (show v = .ref b from rx)
 cases (show u = .ref a from ry)
 obtain ⟨z, hd, xs, rel, dd⟩ := Zcw I.hok (.inl ha)
 refine wpAny_in_heap (tupleKind_room_in1 hu) (Tu I hb) hd dd ?_
 have q' := (rel.val k).Gd
 rw [Option.isSome_map] at q'
 rw [← q']
 exact ⟨.bl _, H, I.tok _, rfl, q⟩
noncomputable def onP (x : DV) (P : Int → Int → Prop) : Prop := match x with | .dat (.tuple [.int i, .int j]) => P i j | _ => False
theorem Qt {x : DV} {P : Int → Int → Prop} (h : onP x P) : ∃ i j, x = .dat (.tuple [.int i, .int j]) ∧ P i j := by
 unfold onP at h
 split at h
 ·exact ⟨_, _, rfl, h⟩
 ·exact h.elim
noncomputable def ZbH : D2 := fun x y M Φ => onP x fun i j => onO y fun l => Nv (M l) fun ks => Φ (.dat (.bool (PH ks (kP i j)))) M
theorem Pj {k : Nat} (hr : Y8 k X.A) : OpD X (compareOp .In) ZbH := by
 refine ⟨_, Zbk (by have := hr.un; omega), fun v u H x y M Φ Q r rv ru h k => ?_⟩
 replace h := Qt h
 obtain ⟨i, j, rfl, h⟩ := h
 replace h := Jm h
 obtain ⟨l, rfl, h⟩ := h
 replace h := Hm h
 obtain ⟨ks, hm, q⟩ := h
 obtain ⟨b, xs, rfl, h1, h2⟩ := QT.tup rv
 cases (show u = .ref l from ru)
 obtain ⟨kvs, g1, g2⟩ := r.dc l ks hm
 have e : xs = (kP i j).map kV := by
  cases h2 with
  | cons a t =>
   cases a
   cases t with
   | cons a t =>
    cases a
    cases t
    rfl
 rw [e] at h1
 refine ⟨l, b, kvs, kP i j, rfl, rfl, g1, h1.sq, ?_⟩
 rw [Gq, g2]
 show Q (.bl (PH ks (kP i j))) H
 exact k.dat r Step.refl (Dt.bl _) q
end
section
variable {prog : Program} {w : World} {A : Around} {E : Value → Shared → Prop} {s : Shared}
end
section
variable {X : Cx}
noncomputable def ZdF (te ts : DTE) : DTE := fun Δ M Φ => te Δ M fun x M1 => ts Δ M1 fun y M2 => onT x fun ds => onI y fun i => i = -1 ∧ Φ (.dat (.tuple ds.reverse)) M2
end
section
variable {prog : Program} {w : World} {A : Around} {E : Value → Shared → Prop} {s : Shared}
theorem DP {t sl : Addr} {items : Array Value} {vl vu : Value} {lo hi : Option Int} {Q : Value → Shared → Prop} (ht : IsTup s.heap t items) (hs : s.heap.IsSliceOf sl vl vu .none) (pl : IsPart vl lo) (pu : IsPart vu hi)
  (hw : HT.sIx items.size 0 lo = 0 ∧ HT.sIx items.size items.size hi = items.size) (h : Q (.ref t) s) : wpAny (model prog w) A (getItem (.ref t) (.ref sl)) Q E s := by
 obtain ⟨os, hos, hcs, hds⟩ := id hs
 have hTs : s.TypeIs (.ref sl) "slice" := ⟨os, hos, hcs⟩
 unfold getItem
 try with_reducible refine wpAny_holding ?_
 first | refine wpAny_bind (wpAny_pure ?_) | skip
 refine wpAny_bind (wpAny_sequenceKey ht.typeIs (by decide) ?_)
 refine wpAny_bind (wpAny_callSpecial?_slot (name := Str.ofString "__getitem__") ht.typeIs PyProof.Rows.slot_tuple_getitem (wpAny_call_entry PyProof.Rows.slot_tuple_getitem ht.typeIs entry_tuple_getitem ?_ (args_tuple_getitem _ _)))
 show wpAny _ _ (Builtin.Tuple.tupleItemsOf (.ref t) >>= _) _ _ s
 refine wpAny_bind (tupleItemsOf_ ht (wpAny_bind (wpAny_typeOf hTs ?_)))
 rw [if_pos (by decide)]
 refine wpAny_bind (HT.VF hs pl pu ?_)
 rw [hw.1, hw.2, Nat.sub_zero]
 show wpAny _ _ (if ((((0 : Nat) : Int) == 0) && ((1 : Int) == 1) && (items.size == items.size)) = true then _ else _) _ _ s
 rw [if_pos (by simp)]
 unfold Builtin.Tuple.tupleIsExact
 refine wpAny_bind (wpAny_bind (wpAny_typeOf ht.typeIs (wpAny_pure ?_)))
 rw [if_pos (by decide)]
 exact wpAny_bind (wpAny_rule (wpAny_pure ⟨_, rfl, wpAny_pure h⟩))
end
section
variable {X : Cx}
noncomputable def Zdc (K : PySem.W.Frag) : V → Option Int → Option Int → Hp → VK → Prop := fun x lo hi H Q => ∃ a xs, x = .ref a ∧ SqT K H a xs ∧ (HT.sIx xs.length 0 lo = 0 ∧ HT.sIx xs.length xs.length hi = xs.length) ∧ Q (.ref a) H
theorem Ro : SlR X (Zdc X.K) := by
 intro pins s σ H x v vl vu lo hi sl Q I rx hs pl pu h
 obtain ⟨a, xs, rfl, hx, hw, q⟩ := h
 cases (show v = .ref a from rx)
 obtain ⟨its, r, ht, hz⟩ := I.tuple hx
 have hlen : its.toArray.size = xs.length := by rw [List.size_toArray]; exact r.length.symm
 exact ⟨"tuple", _, PyProof.Rows.slot_tuple_getitem.lookup, ht.typeIs, DP ht hs pl pu (by rw [hlen]; exact hw) ⟨.ref a, H, I, rfl, q⟩⟩
noncomputable def ZaZ (te : DTE) (tl th : DTO) : DTE := fun Δ M Φ => te Δ M fun x M1 => tl Δ M1 fun l M2 => th Δ M2 fun u M3 => onT x fun ds => Φ (.dat (.tuple (cutD ds l u))) M3
theorem QN {e : Expr} {te : DTE} {lo hi : Option Expr} {tl th : DTO} {p2 pos : Pos} (he : DE X e te) (hl : DO X lo tl) (hu : DO X hi th) : DE X (.Subscript e (.Slice lo hi none p2) pos) (ZaZ te tl th) := by
 obtain ⟨t1, p1, q1⟩ := he
 obtain ⟨t2, p2, q2⟩ := hl
 obtain ⟨t3, p3, q3⟩ := hu
 refine ⟨_, CY (Pq.or Ro) p1 p2 p3, fun σ H Δ M Φ Q r e h k => ?_⟩
 refine q1 σ H Δ M _ _ r e h fun v H1 x M1 r1 st rv hx => ?_
 refine q2 σ H1 Δ M1 _ _ r1 (e.step st) hx fun l H2 M2 r2 st2 hl => ?_
 refine q3 σ H2 Δ M2 _ _ r2 (e.step (st.trans st2)) hl fun u H3 M3 r3 st3 hu => ?_
 replace hu := XE hu
 obtain ⟨ds, rfl, hu⟩ := hu
 obtain ⟨a, xs, rfl, h1, h2⟩ := (rv.step (st2.trans st3)).tup
 by_cases hw : HT.sIx xs.length 0 l = 0 ∧ HT.sIx xs.length xs.length u = xs.length
 ·refine .inr ⟨a, xs, rfl, h1.sq, hw, k.dat r3 (st.trans (st2.trans st3)) (Dt.tup h1 h2) ?_⟩
  have e : cutD ds l u = ds := by
   unfold cutD
   rw [← h2.length, hw.1, hw.2, List.drop_zero, Nat.sub_zero, h2.length, List.take_length]
  rw [e] at hu
  exact hu
 ·refine .inl ⟨a, xs, rfl, h1.sq, hw, fun p hp => ?_⟩
  exact k.dat (r3.new hp) ((st.trans (st2.trans st3)).trans (Step.new hp)) (Dt.WB r3 hp (h2.cut l u)) hu
end
section
variable {X : Cx}
noncomputable def ZcX (x : DV) (M : Mp) (Φ : DK) : Prop := match x with | .dat (.list ds) => Φ (.dat (.list ds)) M | .own l => XT (M l) fun ds => Φ (.dat (.list ds)) (K6 M l) | _ => False
noncomputable def ZcY (t : DTE) : DTE := fun Δ M Φ => t Δ M fun x M1 => ZcX x M1 Φ
end
end DL
namespace DL
open PySem PySem.Spec PyProof.Rows L2
theorem R4 {X : Cx} {e : Expr} {τ τ' : DTE} (h : DE X e τ) (k : ∀ Δ M Φ, τ' Δ M Φ → τ Δ M Φ) : DE X e τ' := by
 obtain ⟨t, p, q⟩ := h
 exact ⟨t, p, fun σ H Δ M Φ Q a b c d => q σ H Δ M Φ Q a b (k _ _ _ c) d⟩
theorem Tb {X : Cx} {s : Stmt} {τ τ' : DTS} (h : DS X s τ) (k : ∀ D Δ M, τ' D Δ M → τ D Δ M) : DS X s τ' := by
 obtain ⟨t, p, q⟩ := h
 exact ⟨t, p, fun σ H Δ M D E a b c d => q σ H Δ M D E a b (k _ _ _ c) d⟩
noncomputable def Zef (src : Wx) : Wx := fun Δ M Ψ => ∃ Ψ', src Δ M Ψ' ∧ ∀ ds M1, Ψ' ds M1 → Ψ ds M1
theorem DI.mono {X : Cx} {tg iter : Expr} {src : Wx} (h : DI X tg iter src) : DI X tg iter (Zef src) := by
 obtain ⟨wi, p, q⟩ := h
 exact ⟨wi, p, fun σ H Δ M Ψ R dr er ⟨Ψ', h1, h2⟩ k => q σ H Δ M Ψ' R dr er h1 fun J H' M' ds a b c d => k J H' M' ds a b c (h2 _ _ d)⟩
noncomputable def Ji (g : DTG) (tc : DTT) (te : DTE) (Δc : DSt) (fin : List PyData → Mp → Prop) : List PyData → List PyData → Mp → Prop
 | [], acc, M => fin acc M
 | d :: ds, acc, M => g (.dat d) Δc M fun Δ2 M2 => tc Δ2 M2 fun b M3 => if b = true then te Δ2 M3 fun y M4 => onD y fun e => Ji g tc te Δc fin ds (acc ++ [e]) M4 else Ji g tc te Δc fin ds acc M3
theorem FR (g : DTG) (tc : DTT) (te : DTE) (Δc : DSt) (fin : List PyData → Mp → Prop) (acc : List PyData) (M : Mp) : Ji g tc te Δc fin [] acc M = fin acc M := by rw [Ji]
theorem Hh (g : DTG) (tc : DTT) (te : DTE) (Δc : DSt) (fin : List PyData → Mp → Prop) (d : PyData) (ds acc : List PyData) (M : Mp) : Ji g tc te Δc fin (d :: ds) acc M =
  g (.dat d) Δc M fun Δ2 M2 => tc Δ2 M2 fun b M3 => if b = true then te Δ2 M3 fun y M4 => onD y fun e => Ji g tc te Δc fin ds (acc ++ [e]) M4 else Ji g tc te Δc fin ds acc M3 := by rw [Ji]
theorem Ou {g : DTG} {tc : DTT} {te : DTE} {Δc : DSt} {fin : List PyData → Mp → Prop} {ds : List PyData} {M : Mp} (h : Ji g tc te Δc fin ds [] M) : ∃ J : Nat → List PyData → Mp → Prop, J 0 [] M ∧
 (∀ i d acc M', ds[i]? = some d → J i acc M' → g (.dat d) Δc M' fun Δ2 M2 => tc Δ2 M2 fun b M3 => if b = true then te Δ2 M3 fun y M4 => onD y fun e => J (i + 1) (acc ++ [e]) M4 else J (i + 1) acc M3) ∧
 ∀ acc M', J ds.length acc M' → fin acc M' := by
 refine ⟨fun i acc M' => Ji g tc te Δc fin (ds.drop i) acc M', by simpa using h, fun i d acc M' e k => ?_, fun acc M' k => ?_⟩
 ·have ed : ds.drop i = d :: ds.drop (i + 1) := by
   obtain ⟨hi, e'⟩ := List.getElem?_eq_some_iff.mp e
   rw [← e', List.drop_eq_getElem_cons hi]
  dsimp only at k
  rw [ed] at k
  exact k
 ·dsimp only at k
  rw [List.drop_length] at k
  exact k
noncomputable def Ck (ow : Bool) (src : Wx) (ix : List (Option Nat)) (g : DTG) (tc : DTT) (te : DTE) : DTE := fun Δ M Φ => src Δ M fun ds M1 => ds.length ≤ sizeLine ∧ Ji g tc te (Eu ix Δ) (Dk ow Φ) ds [] M1
theorem CT {ow : Bool} {src : Wx} {ix : List (Option Nat)} {g : DTG} {tc : DTT} {te : DTE} (Δ : DSt) (M : Mp) (Φ : DK) (h : Ck ow src ix g tc te Δ M Φ) : OB ow (Zef src) ix g tc te Δ M Φ :=
 ⟨_, h, fun _ _ ⟨a, b⟩ => ⟨a, Ou b⟩⟩
section
variable {X : Cx}
theorem Mr (ow : Bool) {elt tg iter : Expr} {ifs : List Expr} {scope : Scope} {pos : Pos} {src : Wx} {N : List Str} {ix : List (Option Nat)} {g : DTG} {tc : DTT} {te : DTE} (ok : YL X scope N ix) (hi : DI X tg iter src)
  (hg : ∀ C ex s H, DG (Z2 X scope C N ex s H) tg g) (ht : ∀ C ex s H, DTs (Z2 X scope C N ex s H) ifs tc) (he : ∀ C ex s H, DE (Z2 X scope C N ex s H) elt te) (hc : X.calm = true)
  (hs : autoParam (∀ x, foldedSetIterable iter X.env x = pure x) zz2._auto_1) : DE X (.ListComp elt [⟨tg, iter, ifs, 0⟩] scope pos) (Ck ow src ix g tc te) :=
 R4 (Q2 ow ok hi.mono hg ht he hc hs) CT
theorem CK (i : Nat) (ow : Bool) {x : Str} {pos' spos : Pos} (hN : X.N.Nodup) {elt tg iter : Expr} {ifs : List Expr} {scope : Scope} {pos : Pos} {src : Wx} {N : List Str} {ix : List (Option Nat)} {g : DTG} {tc : DTT} {te : DTE} (ok : YL X scope N ix) (hi : DI X tg iter src)
  (hg : ∀ C ex s H, DG (Z2 X scope C N ex s H) tg g) (ht : ∀ C ex s H, DTs (Z2 X scope C N ex s H) ifs tc) (he : ∀ C ex s H, DE (Z2 X scope C N ex s H) elt te) (hc : X.calm = true)
  (hs : autoParam (∀ x, foldedSetIterable iter X.env x = pure x) zz2._auto_1) (hin : autoParam (X.N[i]? = some x) zz3._auto_1) (hx : autoParam (Loc X.env.scope x) zz8._auto_1)
  (hsw : autoParam (swapsWith (.ListComp elt [⟨tg, iter, ifs, 0⟩] scope pos) (some (.Name x pos')) spos.line X.env = pure true) zz3._auto_1)
  (hf : autoParam (X.fn x = true ∨ X.env.scope.names.lookup x = some .local) zz0._auto_1) :
  DS X (.Assign [.Name x pos'] (.ListComp elt [⟨tg, iter, ifs, 0⟩] scope pos) spos) (T3 (Ck ow src ix g tc te) (Kp i)) :=
 Tb (HN i ow hN ok hi.mono hg ht he hc hs hin hx hsw hf) fun D Δ M h => CT Δ M _ h
end
noncomputable def VQ (g : DTG) (tb : DTS) (D : QL) : List PyData → DSt → Mp → Prop
 | [], Δ, M => D.nx Δ M
 | d :: ds, Δ, M => g (.dat d) Δ M fun Δ2 M2 => tb { D with nx := VQ g tb D ds, ct := VQ g tb D ds, bk := D.nx } Δ2 M2
theorem MQ (g : DTG) (tb : DTS) (D : QL) (Δ : DSt) (M : Mp) : VQ g tb D [] Δ M = D.nx Δ M := by rw [VQ]
theorem OI (g : DTG) (tb : DTS) (D : QL) (d : PyData) (ds : List PyData) (Δ : DSt) (M : Mp) : VQ g tb D (d :: ds) Δ M = g (.dat d) Δ M fun Δ2 M2 => tb { D with nx := VQ g tb D ds, ct := VQ g tb D ds, bk := D.nx } Δ2 M2 := by rw [VQ]
theorem ZaQ {g : DTG} {tb : DTS} {D : QL} {ds : List PyData} {Δ : DSt} {M : Mp} (h : VQ g tb D ds Δ M) : LA g tb D ds Δ M := by
 refine ⟨fun i => VQ g tb D (ds.drop i), by simpa using h, fun i d Δ M e k => ?_, fun Δ M k => ?_⟩
 ·have ed : ds.drop i = d :: ds.drop (i + 1) := by
   obtain ⟨hi, e'⟩ := List.getElem?_eq_some_iff.mp e
   rw [← e', List.drop_eq_getElem_cons hi]
  dsimp only at k
  rw [ed] at k
  exact k
 ·dsimp only at k
  rw [List.drop_length] at k
  exact k
theorem Ci (lo : Int) (n : Nat) : Wo lo (n + 1) = .int lo :: Wo (lo + 1) n := by
 unfold Wo
 rw [List.range_succ_eq_map, List.map_cons, List.map_map]
 congr 1
 ·simp
 ·refine List.map_congr_left fun i _ => ?_
  show PyData.int _ = PyData.int _
  congr 1
  simp
  omega
theorem ZaO (lo : Int) : Wo lo 0 = [] := rfl
theorem Pt (lo : Int) : Wo lo 1 = [.int lo] := by rw [Ci]; rfl
theorem O2 (lo : Int) : Wo lo 2 = [.int lo, .int (lo + 1)] := by rw [Ci, Pt]
theorem Pl (lo : Int) : Wo lo 3 = [.int lo, .int (lo + 1), .int (lo + 1 + 1)] := by rw [Ci, O2]
theorem ZaT (lo : Int) : Wo lo 4 = [.int lo, .int (lo + 1), .int (lo + 1 + 1), .int (lo + 1 + 1 + 1)] := by rw [Ci, Pl]
theorem S9 {g : DTG} {tb : DTS} {D : QL} {lo : Int} {n : Nat} {Δ : DSt} {M : Mp} (h : VQ g tb D (Wo lo n) Δ M) : WG g tb D lo n Δ M := by
 obtain ⟨J, a, b, c⟩ := ZaQ h
 refine ⟨J, a, fun i Δ M hi k => b i _ Δ M (Ct hi) k, fun Δ M k => c Δ M ?_⟩
 rw [CU]
 exact k
theorem Nb {A B : DTS} {D : QL} {Δ : DSt} {M : Mp} (h : ∀ R, R = B → ZcM A R D Δ M) : ZcM A B D Δ M := h B rfl
theorem Ry {l : List Int} {r : Int} (h0 : 0 ≤ r) (h1 : r < l.length) : ∃ w ∈ l, atI (l.map PyData.int) r = some (.int w) := by
 obtain ⟨d, e, hm⟩ := Hx (l := l.map PyData.int) h0 (by rw [List.length_map]; exact h1)
 obtain ⟨w, hw, rfl⟩ := List.mem_map.mp hm
 exact ⟨w, hw, e⟩
end DL
namespace DL
open PySem PySem.Spec PyProof.Rows L2
theorem G8  : ZT "int" .none = false := rfl
theorem Ca (b : Bool) : ZT "int" (.bool b) = true := rfl
theorem Dn (i : Int) : ZT "int" (.int i) = true := rfl
theorem DX (z : Str) : ZT "int" (.str z) = false := rfl
theorem Cb (l : List PyData) : ZT "int" (.list l) = false := rfl
theorem GB (l : List PyData) : ZT "int" (.tuple l) = false := rfl
theorem G7 (l : List (PyData × PyData)) : ZT "int" (.dict l) = false := rfl
theorem GI  : ZT "bool" .none = false := rfl
theorem GG (b : Bool) : ZT "bool" (.bool b) = true := rfl
theorem BY (i : Int) : ZT "bool" (.int i) = false := rfl
theorem BF (z : Str) : ZT "bool" (.str z) = false := rfl
theorem U8 (l : List PyData) : ZT "bool" (.list l) = false := rfl
theorem Uo (l : List PyData) : ZT "bool" (.tuple l) = false := rfl
theorem UU (l : List (PyData × PyData)) : ZT "bool" (.dict l) = false := rfl
theorem WT  : ZT "tuple" .none = false := rfl
theorem WL (b : Bool) : ZT "tuple" (.bool b) = false := rfl
theorem Gb (i : Int) : ZT "tuple" (.int i) = false := rfl
theorem GF (z : Str) : ZT "tuple" (.str z) = false := rfl
theorem WI (l : List PyData) : ZT "tuple" (.list l) = false := rfl
theorem Wc (l : List PyData) : ZT "tuple" (.tuple l) = true := rfl
theorem WX (l : List (PyData × PyData)) : ZT "tuple" (.dict l) = false := rfl
theorem Gv  : ZT "list" .none = false := rfl
theorem UP (b : Bool) : ZT "list" (.bool b) = false := rfl
theorem GO (i : Int) : ZT "list" (.int i) = false := rfl
theorem BP (z : Str) : ZT "list" (.str z) = false := rfl
theorem UO (l : List PyData) : ZT "list" (.list l) = true := rfl
theorem Us (l : List PyData) : ZT "list" (.tuple l) = false := rfl
theorem GD (l : List (PyData × PyData)) : ZT "list" (.dict l) = false := rfl
theorem GX  : ZT "str" .none = false := rfl
theorem BR (b : Bool) : ZT "str" (.bool b) = false := rfl
theorem D7 (i : Int) : ZT "str" (.int i) = false := rfl
theorem Dx (z : Str) : ZT "str" (.str z) = true := rfl
theorem Bi (l : List PyData) : ZT "str" (.list l) = false := rfl
theorem UK (l : List PyData) : ZT "str" (.tuple l) = false := rfl
theorem BK (l : List (PyData × PyData)) : ZT "str" (.dict l) = false := rfl
theorem UH  : ZT "dict" .none = false := rfl
theorem GA (b : Bool) : ZT "dict" (.bool b) = false := rfl
theorem GS (i : Int) : ZT "dict" (.int i) = false := rfl
theorem GR (z : Str) : ZT "dict" (.str z) = false := rfl
theorem Gf (l : List PyData) : ZT "dict" (.list l) = false := rfl
theorem Um (l : List PyData) : ZT "dict" (.tuple l) = false := rfl
theorem Gm (l : List (PyData × PyData)) : ZT "dict" (.dict l) = true := rfl
theorem ZdB (i j : Int) : (PyData.int i).eqv (.int j) = decide (i = j) := by
 simp only [PyData.eqv]
 first | rfl | exact Bool.beq_eq_decide_eq _ _ | (rw [Bool.eq_iff_iff]; simp)
theorem Zdq (x y : Str) : (PyData.str x).eqv (.str y) = decide (x = y) := by
 simp only [PyData.eqv]
 first | rfl | (rw [Bool.eq_iff_iff]; simp)
theorem Zcz (x y : Bool) : (PyData.bool x).eqv (.bool y) = (x == y) := by
 simp only [PyData.eqv]
theorem ZdY : PyData.none.eqv .none = true := by simp only [PyData.eqv]
theorem ZdG (x y : List PyData) : (PyData.tuple x).eqv (.tuple y) = PyData.eqvAll x y := by simp only [PyData.eqv]
theorem Zdy (x y : List PyData) : (PyData.list x).eqv (.list y) = PyData.eqvAll x y := by simp only [PyData.eqv]
theorem RV : PyData.eqvAll [] [] = true := by simp only [PyData.eqvAll]
theorem ND (x y : PyData) (xs ys : List PyData) : PyData.eqvAll (x :: xs) (y :: ys) = (x.eqv y && PyData.eqvAll xs ys) := by simp only [PyData.eqvAll]
theorem Zbp (x : PyData) (xs : List PyData) : PyData.eqvAll (x :: xs) [] = false := by simp only [PyData.eqvAll]
theorem Zbx (x : PyData) (xs : List PyData) : PyData.eqvAll [] (x :: xs) = false := by simp only [PyData.eqvAll]
end DL
namespace DL
open PySem PySem.Spec PyProof.Rows L2
section
variable {X : Cx} {pos : Pos}
noncomputable def O8 (tc : DTT) (tb : DTS) : DTS := fun D Δ M => ∃ J : Nat → DSt → Mp → Prop, (∃ m, J m Δ M) ∧ ∀ n Δ M, J n Δ M → tc Δ M fun b M1 =>
 if b = true then tb { D with nx := fun Δ' M' => ∃ m, m < n ∧ J m Δ' M', ct := fun Δ' M' => ∃ m, m < n ∧ J m Δ' M', bk := D.nx } Δ M1 else D.nx Δ M1
theorem Mt {c : Expr} {body : List Stmt} {tc : DTT} {tb : DTS} (hc : DT X c tc) (hb : DSs X body tb) (hp : PassesOwn (model X.prog X.w) X.A X.env X.xe) : DS X (.While c body [] pos) (O8 tc tb) := by
 obtain ⟨t1, p1, q1⟩ := hc
 obtain ⟨t2, p2, q2⟩ := hb
 refine ⟨_, Mu hp p1 p2, fun σ H Δ M D E r e h k => ?_⟩
 obtain ⟨J, ⟨m0, j0⟩, jt⟩ := h
 refine ⟨fun n σ' H' => ∃ Δ' M', Z4 X.K M' H' ∧ Step M H M' H' ∧ JY X.K M' H' σ' Δ' ∧ J n Δ' M', ⟨m0, Δ, M, r, Step.refl, e, j0⟩, ?_⟩
 rintro n σ1 H1 ⟨Δ1, M1, r1, st1, e1, j1⟩
 refine q1 σ1 H1 Δ1 M1 _ _ r1 e1 (jt n Δ1 M1 j1) fun b H2 M2 r2 st2 hb2 => ?_
 cases b with
 | true =>
  rw [if_pos rfl] at hb2 ⊢
  refine ⟨fun σ' H' => ∃ m', m' < n ∧ ∃ Δ' M', Z4 X.K M' H' ∧ Step M H M' H' ∧ JY X.K M' H' σ' Δ' ∧ J m' Δ' M', fun σ' H' h => h, ?_⟩
  have s12 := st1.trans st2
  refine q2 σ1 H2 Δ1 M2 _ _ r2 (e1.step st2) hb2 ⟨fun σ' H' Δ' M' a b c d => ?_, k.rt.step s12, fun σ' H' Δ' M' a b c d => k.nx σ' H' Δ' M' a (s12.trans b) c d, fun σ' H' Δ' M' a b c d => ?_⟩
  ·obtain ⟨m, hm, j⟩ := d
   exact ⟨m, hm, Δ', M', a, s12.trans b, c, j⟩
  ·obtain ⟨m, hm, j⟩ := d
   exact ⟨m, hm, Δ', M', a, s12.trans b, c, j⟩
 | false =>
  rw [if_neg Bool.false_ne_true] at hb2 ⊢
  exact k.nx σ1 H2 Δ1 M2 r2 (st1.trans st2) (e1.step st2) hb2
noncomputable def ZeF (to : DTE) : DTE := fun Δ M Φ => to Δ M fun x M1 => onO x fun l => ∃ ds d, M1 l = some (.lst (ds ++ [d])) ∧ Φ (.dat d) (Z3 M1 l (.lst ds))
theorem Dts.snoc_inv {K : PySem.W.Frag} {M : Mp} {H : Hp} : ∀ {vs : List V} {ds : List PyData} {d : PyData}, Dts K M H vs (ds ++ [d]) → ∃ ws v, vs = ws ++ [v] ∧ Dts K M H ws ds ∧ Dt K M H v d
 | vs, [], d, h => by
  cases h with
  | cons a b => cases b; exact ⟨[], _, rfl, .nil, a⟩
 | vs, e :: ds, d, h => by
  cases h with
  | cons a b =>
   obtain ⟨ws, v, rfl, h1, h2⟩ := Dts.snoc_inv b
   exact ⟨_ :: ws, v, rfl, .cons a h1, h2⟩
theorem Zco {o : Expr} {to : DTE} {apos cpos : Pos} (ho : DE X o to) (hbase : autoParam (attributeBase o "pop" X.env (eval o X.env) = eval o X.env) zz3._auto_1) (hline : autoParam ((apos.endLine == cpos.line) = true) zz3._auto_1) :
  DE X (.Call (.Attribute o "pop" apos) [] [] cpos) (ZeF to) := by
 obtain ⟨t1, p1, q1⟩ := ho
 refine ⟨_, Zac PySem.F.plainAttrs_list PySem.F.slot_list_pop PySem.F.type_list_pop ZbC p1 hbase hline, fun σ H Δ M Φ Q r e h k => ?_⟩
 refine q1 σ H Δ M _ _ r e h fun v H1 x M1 r1 st rv hx => ?_
 replace hx := Jm hx
 obtain ⟨l, rfl, ds, d, hm, hx⟩ := hx
 cases (show v = .ref l from rv)
 obtain ⟨vs, g1, g2⟩ := r1.ls l _ hm
 obtain ⟨ws, v, rfl, h1, h2⟩ := Dts.snoc_inv g2
 refine ⟨.inl ⟨rfl, _, SqL.of g1⟩, l, _, v, rfl, rfl, g1, by simp, ?_⟩
 rw [List.dropLast_concat]
 have st2 : Step M1 H1 (Z3 M1 l (.lst ds)) (upd H1 l (.lst ws)) := Step.Gs hm
 exact k.dat (r1.XF st2 h1) (st.trans st2) (h2.step st2) hx
noncomputable def isNone : PyData → Bool
 | .none => true
 | _ => false
noncomputable def onN (x : DV) (P : Prop) : Prop := match x with | .dat .none => P | _ => False
noncomputable def Zd4 (b : Bool) : D2 := fun x y M Φ => onD x fun d => onN y <| Φ (.dat (.bool (isNone d != b))) M
theorem isNone_none : isNone .none = true := rfl
theorem B7 (b : Bool) : isNone (.bool b) = false := rfl
theorem DM (b : Int) : isNone (.int b) = false := rfl
theorem DJ (b : Str) : isNone (.str b) = false := rfl
theorem G6 (b : List PyData) : isNone (.list b) = false := rfl
theorem UM (b : List PyData) : isNone (.tuple b) = false := rfl
theorem BI (b : List (PyData × PyData)) : isNone (.dict b) = false := rfl
noncomputable def Zge (c : Bool) : PyData → Bool
 | .bool b => b == c
 | _ => false
theorem Lp (hu : X.A.units + 66 < cLine) : OpR X (compareOp .NotIn) (fun x y H Q => ∃ M d ds, Dt X.K M H x d ∧ (Dt X.K M H y (.list ds) ∨ Dt X.K M H y (.tuple ds)) ∧ d.canLay0 = true ∧ PyData.canLayAll0 ds = true ∧ d.depth ≤ 64 ∧ Q (.bl (!(ds.any fun e => PyData.eqv e d))) H) := by
 intro pins s σ H x y v u Q I rx ry h
 obtain ⟨M, d, ds, h1, h2, c1, c2, hdp, q⟩ := h
 obtain ⟨as, ra, _⟩ := h1.reads I rx
 rcases h2 with h2 | h2
 ·obtain ⟨bs, rb, _⟩ := h2.reads I ry
  exact PySem.SeqAt.notIn_list_reads rb ra c2 c1 (by have := Nat.min_le_right (PyData.depthAll ds) d.depth; omega) ⟨.bl _, H, I, rfl, q⟩
 ·obtain ⟨bs, rb, _⟩ := h2.reads I ry
  exact PySem.SeqAt.notIn_tuple_reads rb ra c2 c1 (by have := Nat.min_le_right (PyData.depthAll ds) d.depth; omega) ⟨.bl _, H, I, rfl, q⟩
noncomputable def FD : D2 := fun x y M Φ => onD x fun d => onW y fun ds => okIn d ds = true ∧ Φ (.dat (.bool (!(ds.any fun e => PyData.eqv e d)))) M
theorem WU {k : Nat} (hr : Y8 k X.A) : OpD X (compareOp .NotIn) FD :=
 ⟨_, Lp (by have := hr.un; omega), fun v u H x y M Φ Q r rv ru h k => by
  obtain ⟨d, e1, h⟩ := Qo h
  obtain ⟨ds, e2, ho, q⟩ := Pa h
  obtain ⟨c1, c2, hdp⟩ := Fv ho
  subst e1
  refine ⟨M, d, ds, rv, ?_, c1, c2, hdp, k.dat r Step.refl (Dt.bl _) q⟩
  rcases e2 with rfl | rfl
  ·exact .inl ru
  ·exact .inr ru⟩
noncomputable def MI : D2 := fun x y M Φ => onP x fun i j => onO y fun l => Nv (M l) fun ks => Φ (.dat (.bool (!PH ks (kP i j)))) M
end
section
variable {prog : Program} {w : World} {A : Around} {E : Value → Shared → Prop} {s : Shared}
end
end DL
namespace DL
open PySem PySem.Spec PyProof.Rows L2
theorem MX (x : DV) (P : DV → Prop) : onV (some (some x)) P = P x := propext Iff.rfl
theorem Oq (i : Int) (P : Int → Prop) : onI (.dat (.int i)) P = P i := propext Iff.rfl
theorem L5 (i : Bool) (P : Bool → Prop) : onB (.dat (.bool i)) P = P i := propext Iff.rfl
theorem Oz (i : List PyData) (P : List PyData → Prop) : onT (.dat (.tuple i)) P = P i := propext Iff.rfl
theorem Oa (i : List PyData) (P : List PyData → Prop) : onL (.dat (.list i)) P = P i := propext Iff.rfl
theorem NJ (i : PyData) (P : PyData → Prop) : onD (.dat i) P = P i := propext Iff.rfl
theorem Oj (i : Addr) (P : Addr → Prop) : onO (.own i) P = P i := propext Iff.rfl
theorem Ho (ds : List PyData) (P : List PyData → Prop) : XT (some (.lst ds)) P = P ds := propext Iff.rfl
theorem EE (ks : List (List Key)) (P : List (List Key) → Prop) : Nv (some (.dct ks)) P = P ks := propext Iff.rfl
theorem S3 (ds : List PyData) (M : Mp) (P : List PyData → Prop) : onQ (.dat (.tuple ds)) M P = P ds := propext Iff.rfl
theorem RQ (ds : List PyData) (M : Mp) (P : List PyData → Prop) : onQ (.dat (.list ds)) M P = P ds := propext Iff.rfl
theorem P7 (l : Addr) (M : Mp) (P : List PyData → Prop) : onQ (.own l) M P = XT (M l) P := propext Iff.rfl
theorem RC (ds : List PyData) (M : Mp) (P : List PyData → Prop) : onK (.dat (.list ds)) M P = P ds := propext Iff.rfl
theorem P4 (l : Addr) (M : Mp) (P : List PyData → Prop) : onK (.own l) M P = XT (M l) P := propext Iff.rfl
theorem Nj (x : DV) (P : DV → Prop) : on1 [x] P = P x := propext Iff.rfl
theorem LX (x y : DV) (P : DV → DV → Prop) : on2 [x, y] P = P x y := propext Iff.rfl
theorem NN (x y z : DV) (P : DV → DV → DV → Prop) : on3 [x, y, z] P = P x y z := propext Iff.rfl
theorem LP (x0 x1 x2 x3 : DV) (P : DV → DV → DV → DV → Prop) : on4 [x0, x1, x2, x3] P = P x0 x1 x2 x3 := propext Iff.rfl
theorem N0 (x0 x1 x2 x3 x4 : DV) (P : DV → DV → DV → DV → DV → Prop) : on5 [x0, x1, x2, x3, x4] P = P x0 x1 x2 x3 x4 := propext Iff.rfl
theorem N9 (P : List PyData → Prop) : K9 [] P = P [] := propext Iff.rfl
theorem NC (a0 : PyData) (P : List PyData → Prop) : K9 [.dat a0] P = P [a0] := propext Iff.rfl
theorem Nf (a0 a1 : PyData) (P : List PyData → Prop) : K9 [.dat a0, .dat a1] P = P [a0, a1] := propext Iff.rfl
theorem OE (a0 a1 a2 : PyData) (P : List PyData → Prop) : K9 [.dat a0, .dat a1, .dat a2] P = P [a0, a1, a2] := propext Iff.rfl
theorem Ol (a0 a1 a2 a3 : PyData) (P : List PyData → Prop) : K9 [.dat a0, .dat a1, .dat a2, .dat a3] P = P [a0, a1, a2, a3] := propext Iff.rfl
theorem Me (a0 a1 a2 a3 a4 : PyData) (P : List PyData → Prop) : K9 [.dat a0, .dat a1, .dat a2, .dat a3, .dat a4] P = P [a0, a1, a2, a3, a4] := propext Iff.rfl
theorem NG (a0 a1 a2 a3 a4 a5 : PyData) (P : List PyData → Prop) : K9 [.dat a0, .dat a1, .dat a2, .dat a3, .dat a4, .dat a5] P = P [a0, a1, a2, a3, a4, a5] := propext Iff.rfl
theorem L3 (a0 a1 a2 a3 a4 a5 a6 : PyData) (P : List PyData → Prop) : K9 [.dat a0, .dat a1, .dat a2, .dat a3, .dat a4, .dat a5, .dat a6] P = P [a0, a1, a2, a3, a4, a5, a6] := propext Iff.rfl
theorem NQ (a0 a1 a2 a3 a4 a5 a6 a7 a8 : PyData) (P : List PyData → Prop) : K9 [.dat a0, .dat a1, .dat a2, .dat a3, .dat a4, .dat a5, .dat a6, .dat a7, .dat a8] P = P [a0, a1, a2, a3, a4, a5, a6, a7, a8] := propext Iff.rfl
theorem Fd (a0 a1 a2 a3 a4 a5 a6 a7 a8 a9 : PyData) (P : List PyData → Prop) : K9 [.dat a0, .dat a1, .dat a2, .dat a3, .dat a4, .dat a5, .dat a6, .dat a7, .dat a8, .dat a9] P = P [a0, a1, a2, a3, a4, a5, a6, a7, a8, a9] := propext Iff.rfl
theorem Zcx (i : Nat) (Δ : DSt) (M : Mp) (Φ : DK) : ZeW i Δ M Φ = (onV Δ[i]? fun x => Φ x M) := propext Iff.rfl
theorem Zfc (d : PyData) (z0 : DSt) (M : Mp) (Φ : DK) : dC d z0 M Φ = (Φ (.dat d) M) := propext Iff.rfl
theorem Zc1 (n : String) (z0 : DSt) (M : Mp) (Φ : DK) : dTy n z0 M Φ = (Φ (.ty n) M) := propext Iff.rfl
theorem Zd3 (δ : D2) (ta tb : DTE) (Δ : DSt) (M : Mp) (Φ : DK) : dOp δ ta tb Δ M Φ = (ta Δ M fun x M1 => tb Δ M1 fun y M2 => δ x y M2 Φ) := propext Iff.rfl
theorem ZfG (t : DTE) (Δ : DSt) (M : Mp) (Φ : Bool → Mp → Prop) : dB t Δ M Φ = (t Δ M fun x M1 => onB x fun c => Φ c M1) := propext Iff.rfl
theorem OQ (δ δ' : D2) (ta tb tc : DTE) (Δ : DSt) (M : Mp) (Φ : DK) : Cm δ δ' ta tb tc Δ M Φ = (ta Δ M fun x M1 => tb Δ M1 fun y M2 => δ x y M2 fun z M3 => onB z fun k => (if k = true then tc Δ M3 fun w' M4 => δ' y w' M4 Φ else Φ (.dat (.bool false)) M3)) := propext Iff.rfl
theorem ZbV (t u : DTT) (Δ : DSt) (M : Mp) (Φ : Bool → Mp → Prop) : Ze0 t u Δ M Φ = (t Δ M fun c M1 => if c = true then u Δ M1 Φ else Φ false M1) := propext Iff.rfl
theorem Zc6 (t u : DTT) (Δ : DSt) (M : Mp) (Φ : Bool → Mp → Prop) : dOr t u Δ M Φ = (t Δ M fun c M1 => if c = true then Φ true M1 else u Δ M1 Φ) := propext Iff.rfl
theorem ZaA (t : DTT) (Δ : DSt) (M : Mp) (Φ : Bool → Mp → Prop) : ZeQ t Δ M Φ = (t Δ M fun c M1 => Φ (!c) M1) := propext Iff.rfl
theorem R8 (ta tb : DTE) (Δ : DSt) (M : Mp) (Φ : DK) : Za6 ta tb Δ M Φ = (ta Δ M fun x M1 => onB x fun c => if c = true then tb Δ M1 Φ else Φ (.dat (.bool false)) M1) := propext Iff.rfl
theorem Su (ta : DTE) (Δ : DSt) (M : Mp) (Φ : DK) : TC ta Δ M Φ = (ta Δ M fun x M1 => onB x fun c => Φ (.dat (.bool (!c))) M1) := propext Iff.rfl
theorem Zd5 (t : DTT) (ta tb : DTE) (Δ : DSt) (M : Mp) (Φ : DK) : dIf t ta tb Δ M Φ = (t Δ M fun c M1 => if c = true then ta Δ M1 Φ else tb Δ M1 Φ) := propext Iff.rfl
theorem ZaX (g : Int → Int) (ta : DTE) (Δ : DSt) (M : Mp) (Φ : DK) : Zeo g ta Δ M Φ = (ta Δ M fun x M1 => onI x fun i => Φ (.dat (.int (g i))) M1) := propext Iff.rfl
theorem ZdJ (C : Int → Int → Prop) (g : Int → Int → PyData) (x : DV) (y : DV) (M : Mp) (Φ : DK) : δI C g x y M Φ = (onI x fun i => onI y fun j => C i j ∧ Φ (.dat (g i j)) M) := propext Iff.rfl
theorem Zbs (g : Int → Int → PyData) (x : DV) (y : DV) (M : Mp) (Φ : DK) : δI0 g x y M Φ = (onI x fun i => onI y fun j => Φ (.dat (g i j)) M) := propext Iff.rfl
theorem Zcg  (z0 : DSt) (M : Mp) (Φ : List DV → Mp → Prop) : Zex z0 M Φ = (Φ [] M) := propext Iff.rfl
theorem P9 (ta : DTE) (tr : DTA) (Δ : DSt) (M : Mp) (Φ : List DV → Mp → Prop) : Zcm ta tr Δ M Φ = (ta Δ M fun x M1 => tr Δ M1 fun xs M2 => Φ (x :: xs) M2) := propext Iff.rfl
theorem Zcc (t : DTA) (Δ : DSt) (M : Mp) (Φ : DK) : ZeR t Δ M Φ = (t Δ M fun xs M1 => K9 xs fun ds => Φ (.dat (.tuple ds)) M1) := propext Iff.rfl
theorem Zar (t : DTA) (Δ : DSt) (M : Mp) (Φ : DK) : ZeI t Δ M Φ = (t Δ M fun xs M1 => K9 xs fun ds => Φ (.dat (.list ds)) M1) := propext Iff.rfl
theorem Sl (t : DTA) (Δ : DSt) (M : Mp) (Φ : DK) : ZaP t Δ M Φ = (t Δ M fun xs M1 => K9 xs fun ds => ∀ p, M1 p = none → Φ (.own p) (Z3 M1 p (.lst ds))) := propext Iff.rfl
theorem ZbU (t : DTE) (Δ : DSt) (M : Mp) (Φ : DK) : ZeP t Δ M Φ = (t Δ M fun x M1 => onO x fun l => XT (M1 l) fun ds => Φ (.dat (.list ds)) (K6 M1 l)) := propext Iff.rfl
theorem Nn (a : PyData) (l : List PyData) (P : PyData → Prop) : Ku (a :: l) 0 P = P a := propext Iff.rfl
theorem MB (a b : PyData) (l : List PyData) (P : PyData → Prop) : Ku (a :: b :: l) 1 P = P b := propext Iff.rfl
theorem ML (a b c : PyData) (l : List PyData) (P : PyData → Prop) : Ku (a :: b :: c :: l) 2 P = P c := propext Iff.rfl
theorem Mz (a b c d : PyData) (l : List PyData) (P : PyData → Prop) : Ku (a :: b :: c :: d :: l) 3 P = P d := propext Iff.rfl
theorem LR (a b c d e : PyData) (l : List PyData) (P : PyData → Prop) : Ku (a :: b :: c :: d :: e :: l) 4 P = P e := propext Iff.rfl
theorem Zaw  (x : DV) (y : DV) (M : Mp) (Φ : DK) : δIx x y M Φ = (onQ x M fun ds => onI y fun i => Ku ds i fun d => Φ (.dat d) M) := propext Iff.rfl
theorem ZdP (δ : D1) (t : DTA) (Δ : DSt) (M : Mp) (Φ : DK) : dCB δ t Δ M Φ = (t Δ M fun xs M1 => δ xs M1 Φ) := propext Iff.rfl
theorem R9  (xs : List DV) (M : Mp) (Φ : DK) : TF xs M Φ = (on1 xs fun x => onQ x M fun ds => Φ (.dat (.int ds.length)) M) := propext Iff.rfl
theorem NZ  (xs : List DV) (M : Mp) (Φ : DK) : PV xs M Φ = (on1 xs fun x => onI x fun i => i.natAbs.log2 < 1920 ∧ Φ (.dat (.str (toString i))) M) := propext Iff.rfl
theorem Rm  (xs : List DV) (M : Mp) (Φ : DK) : Zcb xs M Φ = (on1 xs fun x => onI x fun i => Φ (.dat (.int (if i < 0 then -i else i))) M) := propext Iff.rfl
theorem Zb3 (g : Int → Int → Int) (xs : List DV) (M : Mp) (Φ : DK) : δ2I g xs M Φ = (on2 xs fun x y => onI x fun i => onI y fun j => Φ (.dat (.int (g i j))) M) := propext Iff.rfl
theorem Eg  (xs : List DV) (M : Mp) (Φ : DK) : CD xs M Φ = (on1 xs fun x => onQ x M fun ds => Φ (.dat (.list ds)) M) := propext Iff.rfl
theorem Dm (T : String) (d : PyData) (t : String) (M : Mp) (Φ : DK) : SY T [.dat d, .ty t] M Φ = (t = T ∧ Φ (.dat (.bool (ZT T d))) M) := propext Iff.rfl
theorem OM (i j : Int) (P : Bool → Prop) : eqD (.int i) (.int j) P = P (decide (i = j)) := propext Iff.rfl
theorem LY (i j : Str) (P : Bool → Prop) : eqD (.str i) (.str j) P = P (decide (i = j)) := propext Iff.rfl
theorem NS (i j : Bool) (P : Bool → Prop) : eqD (.bool i) (.bool j) P = P (i == j) := propext Iff.rfl
theorem Zck  (x : DV) (y : DV) (M : Mp) (Φ : DK) : δEq x y M Φ = (onD x fun d => onD y fun e => eqD d e fun b => Φ (.dat (.bool b)) M) := propext Iff.rfl
theorem Za4  (x : DV) (y : DV) (M : Mp) (Φ : DK) : δNe x y M Φ = (onD x fun d => onD y fun e => eqD d e fun b => Φ (.dat (.bool (!b))) M) := propext Iff.rfl
theorem FQ  (z0 : DSt) (M : Mp) (Φ : Option Int → Mp → Prop) : EO z0 M Φ = (Φ none M) := propext Iff.rfl
theorem SR (t : DTE) (Δ : DSt) (M : Mp) (Φ : Option Int → Mp → Prop) : Zbn t Δ M Φ = (t Δ M fun x M1 => onI x fun i => Φ (some i) M1) := propext Iff.rfl
theorem ZbT (te : DTE) (tl th : DTO) (Δ : DSt) (M : Mp) (Φ : DK) : ZeV te tl th Δ M Φ = (te Δ M fun x M1 => tl Δ M1 fun l M2 => th Δ M2 fun u M3 => onT x fun ds => ¬ (HT.sIx ds.length 0 l = 0 ∧ HT.sIx ds.length ds.length u = ds.length) ∧ Φ (.dat (.tuple (cutD ds l u))) M3) := propext Iff.rfl
theorem So  (D : QL) (Δ : DSt) (M : Mp) : ZbO D Δ M = (D.nx Δ M) := propext Iff.rfl
theorem ZbR (t u : DTS) (D : QL) (Δ : DSt) (M : Mp) : ZcM t u D Δ M = (t { D with nx := u D } Δ M) := propext Iff.rfl
theorem R0 (te : DTE) (D : QL) (Δ : DSt) (M : Mp) : T9 te D Δ M = (te Δ M fun _ M1 => D.nx Δ M1) := propext Iff.rfl
theorem ZcA (te : DTE) (D : QL) (Δ : DSt) (M : Mp) : Zek te D Δ M = (te Δ M D.rt) := propext Iff.rfl
theorem Zb5 (c : DTT) (t u : DTS) (D : QL) (Δ : DSt) (M : Mp) : ZcH c t u D Δ M = (c Δ M fun b M1 => if b = true then t D Δ M1 else u D Δ M1) := propext Iff.rfl
theorem Y1 (i : Nat) (x : DV) (Δ : DSt) (M : Mp) (Φ : DSt → Mp → Prop) : Kp i x Δ M Φ = (Φ (Δ.set i (some x)) M) := propext Iff.rfl
theorem Dv (Δ : DSt) (M : Mp) (Φ : DSt → Mp → Prop) : Rt [] Δ M Φ = Φ Δ M := propext Iff.rfl
theorem B5 (t : DTG) (u : Eo) (x : DV) (r : List DV) (Δ : DSt) (M : Mp) (Φ : DSt → Mp → Prop) : Cr t u (x :: r) Δ M Φ = t x Δ M fun Δ' M' => u r Δ' M' Φ := propext Iff.rfl
theorem Mv (P : List DV → Prop) : LM 0 [] P = P [] := propext Iff.rfl
theorem MV (n : Nat) (d : PyData) (r : List PyData) (P : List DV → Prop) : LM (n + 1) (d :: r) P = LM n r fun xs => P (.dat d :: xs) := propext Iff.rfl
theorem S4 (n : Nat) (t : Eo) (x : DV) (Δ : DSt) (M : Mp) (Φ : DSt → Mp → Prop) : Zcf n t x Δ M Φ = (onT x fun ds => LM n ds fun xs => t xs Δ M Φ) := propext Iff.rfl
theorem Sh (to ti : DTE) (x : DV) (Δ : DSt) (M : Mp) (Φ : DSt → Mp → Prop) : ZcB to ti x Δ M Φ = (to Δ M fun o M1 => ti Δ M1 fun i M2 => onO o fun l => onI i fun k => onD x fun d => XT (M2 l) fun ds => ∃ j, ixN ds.length k = some j ∧ Φ Δ (Z3 M2 l (.lst (ds.set j d)))) := propext Iff.rfl
theorem Za1 (te : DTE) (g : DTG) (D : QL) (Δ : DSt) (M : Mp) : T3 te g D Δ M = (te Δ M fun x M1 => g x Δ M1 D.nx) := propext Iff.rfl
theorem HR (to te : DTE) (Δ : DSt) (M : Mp) (Φ : DK) : EV to te Δ M Φ = (to Δ M fun x M1 => onO x fun l => XT (M1 l) fun _ => te Δ M1 fun y M2 => onD y fun d => XT (M2 l) fun ds => ds.length < sizeLine ∧ Φ (.dat .none) (Z3 M2 l (.lst (ds ++ [d])))) := propext Iff.rfl
theorem Sy (te : DTE) (g : DTG) (tb : DTS) (D : QL) (Δ : DSt) (M : Mp) : ZbG te g tb D Δ M = (te Δ M fun x M1 => onL x fun ds => LA g tb D ds Δ M1) := propext Iff.rfl
theorem Sx (te : DTE) (g : DTG) (tb : DTS) (D : QL) (Δ : DSt) (M : Mp) : ZbA te g tb D Δ M = (te Δ M fun x M1 => onT x fun ds => LA g tb D ds Δ M1) := propext Iff.rfl
theorem L4 (ta : DTA) (g : DTG) (tb : DTS) (D : QL) (Δ : DSt) (M : Mp) : Pg ta g tb D Δ M = (ta Δ M fun xs M1 => on1 xs fun x => onI x fun j => InR j ∧ WG g tb D 0 j.toNat Δ M1) := propext Iff.rfl
theorem Od (ta : DTA) (g : DTG) (tb : DTS) (D : QL) (Δ : DSt) (M : Mp) : Pk ta g tb D Δ M = (ta Δ M fun xs M1 => on2 xs fun x y => onI x fun i => onI y fun j => (InR i ∧ InR j) ∧ WG g tb D i (j - i).toNat Δ M1) := propext Iff.rfl
theorem SE (S : DSp) (t : DTA) (Δ : DSt) (M : Mp) (Φ : DK) : Zau S t Δ M Φ = (t Δ M fun xs M1 => S xs M1 Φ) := propext Iff.rfl
theorem Nm  (z0 : DSt) (M : Mp) (Φ : DK) : OY z0 M Φ = (Φ (.dat (.dict [])) M) := propext Iff.rfl
theorem T7 (te : DTE) (Δ : DSt) (M : Mp) (Ψ : List PyData → Mp → Prop) : ZeD te Δ M Ψ = (te Δ M fun x M1 => onL x fun ds => Ψ ds M1) := propext Iff.rfl
theorem Zaj (te : DTE) (Δ : DSt) (M : Mp) (Ψ : List PyData → Mp → Prop) : ZeB te Δ M Ψ = (te Δ M fun x M1 => onT x fun ds => Ψ ds M1) := propext Iff.rfl
theorem RF (ta : DTA) (Δ : DSt) (M : Mp) (Ψ : List PyData → Mp → Prop) : Zbd ta Δ M Ψ = (ta Δ M fun xs M1 => on1 xs fun x => onI x fun j => InR j ∧ Ψ (Wo 0 j.toNat) M1) := propext Iff.rfl
theorem Mc (Φ : DK) (acc : List PyData) (M : Mp) : Dk true Φ acc M = ∀ p, M p = none → Φ (.own p) (Z3 M p (.lst acc)) := propext Iff.rfl
theorem Oh (Φ : DK) (acc : List PyData) (M : Mp) : Dk false Φ acc M = Φ (.dat (.list acc)) M := propext Iff.rfl
theorem SW (ow : Bool) (src : Wx) (ix : List (Option Nat)) (g : DTG) (tc : DTT) (te : DTE) (Δ : DSt) (M : Mp) (Φ : DK) : OB ow src ix g tc te Δ M Φ = (src Δ M fun ds M1 => ds.length ≤ sizeLine ∧ ∃ J : Nat → List PyData → Mp → Prop, J 0 [] M1 ∧ (∀ i d acc M', ds[i]? = some d → J i acc M' → g (.dat d) (Eu ix Δ) M' fun Δ2 M2 => tc Δ2 M2 fun b M3 => if b = true then te Δ2 M3 fun y M4 => onD y fun e => J (i + 1) (acc ++ [e]) M4 else J (i + 1) acc M3) ∧ ∀ acc M', J ds.length acc M' → Dk ow Φ acc M') := propext Iff.rfl
theorem Zcn  (z0 : DSt) (M : Mp) (Φ : Bool → Mp → Prop) : ZeU z0 M Φ = (Φ true M) := propext Iff.rfl
theorem MW  (xs : List DV) (M : Mp) (Φ : DK) : OW xs M Φ = (∃ ns : List Int, VG xs M ns ∧ 0 < ns.length ∧ ∀ m ∈ ns, (∀ a ∈ ns, m ≤ a) → Φ (.dat (.int m)) M) := propext Iff.rfl
theorem MF  (xs : List DV) (M : Mp) (Φ : DK) : Pm xs M Φ = (∃ ns : List Int, VG xs M ns ∧ 0 < ns.length ∧ ∀ m ∈ ns, (∀ a ∈ ns, a ≤ m) → Φ (.dat (.int m)) M) := propext Iff.rfl
theorem Zbz (g : Int → Int → Int → Int) (xs : List DV) (M : Mp) (Φ : DK) : δ3I g xs M Φ = (on3 xs fun x y z => onI x fun i => onI y fun j => onI z fun l => Φ (.dat (.int (g i j l))) M) := propext Iff.rfl
theorem Lz  (xs : List DV) (M : Mp) (Φ : DK) : HG xs M Φ = (on1 xs fun x => onQ x M fun ds => Φ (.dat (.tuple ds)) M) := propext Iff.rfl
theorem RA (ds : List PyData) (P : List PyData → Prop) : onW (.dat (.tuple ds)) P = P ds := propext Iff.rfl
theorem Sb (ds : List PyData) (P : List PyData → Prop) : onW (.dat (.list ds)) P = P ds := propext Iff.rfl
theorem ZbK  (x : DV) (y : DV) (M : Mp) (Φ : DK) : δIn x y M Φ = (onD x fun d => onW y fun ds => okIn d ds = true ∧ Φ (.dat (.bool (ds.any fun e => PyData.eqv e d))) M) := propext Iff.rfl
theorem Hr (to te : DTE) (Δ : DSt) (M : Mp) (Φ : DK) : HD to te Δ M Φ = (to Δ M fun x M1 => onO x fun l => XT (M1 l) fun _ => te Δ M1 fun y M2 => onO y fun b => XT (M2 l) fun ds => XT (M2 b) fun es => b ≠ l ∧ ds.length + es.length ≤ sizeLine ∧ Φ (.dat .none) (K6 (Z3 M2 l (.lst (ds ++ es))) b)) := propext Iff.rfl
theorem N4  (xs : List DV) (M : Mp) (Φ : DK) : OT xs M Φ = (∃ bs : List Bool, xs = [.dat (.list (bs.map PyData.bool))] ∧ Φ (.dat (.bool (bs.all id))) M) := propext Iff.rfl
theorem MS  (xs : List DV) (M : Mp) (Φ : DK) : OV xs M Φ = (∃ bs : List Bool, xs = [.dat (.list (bs.map PyData.bool))] ∧ Φ (.dat (.bool (bs.any id))) M) := propext Iff.rfl
theorem CN  (x : DV) (y : DV) (M : Mp) (Φ : DK) : O3 x y M Φ = (onK x M fun ds => onK y M fun es => ds.length + es.length ≤ sizeLine ∧ Φ (.dat (.list (ds ++ es))) M) := propext Iff.rfl
theorem Cg  (xs : List DV) (M : Mp) (Φ : DK) : O4 xs M Φ = (∃ qs : List (Int × Int), xs = [.dat (.list (qs.map prD))] ∧ 0 < qs.length ∧ ∀ q ∈ qs, (∀ r ∈ qs, ltP r q = false) → Φ (.dat (prD q)) M) := propext Iff.rfl
theorem Hd  (z0 : DSt) (M : Mp) (Φ : DK) : Hy z0 M Φ = (∀ p, M p = none → Φ (.own p) (Z3 M p (.dct []))) := propext Iff.rfl
theorem Ss (td : DTE) (ta : DTA) (tv : DTE) (D : QL) (Δ : DSt) (M : Mp) : Zca td ta tv D Δ M = (tv Δ M fun x M1 => td Δ M1 fun y M2 => ta Δ M2 fun zs M3 => onD x fun _ => onO y fun l => on2 zs fun p q => onI p fun i => onI q fun j => Nv (M3 l) fun ks => ks.length < sizeLine ∧ D.nx Δ (Z3 M3 l (.dct (LJ ks (kP i j))))) := propext Iff.rfl
theorem NW (i j : Int) (P : Int → Int → Prop) : onP (.dat (.tuple [.int i, .int j])) P = P i j := propext Iff.rfl
theorem PY  (x : DV) (y : DV) (M : Mp) (Φ : DK) : ZbH x y M Φ = (onP x fun i j => onO y fun l => Nv (M l) fun ks => Φ (.dat (.bool (PH ks (kP i j)))) M) := propext Iff.rfl
theorem SV (te : DTE) (tl th : DTO) (Δ : DSt) (M : Mp) (Φ : DK) : ZaZ te tl th Δ M Φ = (te Δ M fun x M1 => tl Δ M1 fun l M2 => th Δ M2 fun u M3 => onT x fun ds => Φ (.dat (.tuple (cutD ds l u))) M3) := propext Iff.rfl
theorem NX (ow : Bool) (src : Wx) (ix : List (Option Nat)) (g : DTG) (tc : DTT) (te : DTE) (Δ : DSt) (M : Mp) (Φ : DK) : Ck ow src ix g tc te Δ M Φ = (src Δ M fun ds M1 => ds.length ≤ sizeLine ∧ Ji g tc te (Eu ix Δ) (Dk ow Φ) ds [] M1) := propext Iff.rfl
theorem MO (tc : DTT) (tb : DTS) (D : QL) (Δ : DSt) (M : Mp) : O8 tc tb D Δ M = (∃ J : Nat → DSt → Mp → Prop, (∃ m, J m Δ M) ∧ ∀ n Δ M, J n Δ M → tc Δ M fun b M1 => if b = true then tb { D with nx := fun Δ' M' => ∃ m, m < n ∧ J m Δ' M', ct := fun Δ' M' => ∃ m, m < n ∧ J m Δ' M', bk := D.nx } Δ M1 else D.nx Δ M1) := propext Iff.rfl
theorem ZbS (to : DTE) (Δ : DSt) (M : Mp) (Φ : DK) : ZeF to Δ M Φ = (to Δ M fun x M1 => onO x fun l => ∃ ds d, M1 l = some (.lst (ds ++ [d])) ∧ Φ (.dat d) (Z3 M1 l (.lst ds))) := propext Iff.rfl
theorem HF  (x : DV) (y : DV) (M : Mp) (Φ : DK) : FD x y M Φ = (onD x fun d => onW y fun ds => okIn d ds = true ∧ Φ (.dat (.bool (!(ds.any fun e => PyData.eqv e d)))) M) := propext Iff.rfl
end DL
namespace DL
open PySem PySem.Spec PyProof.Rows L2
section
variable {prog : Program} {w : World} {A : Around} {E : Value → Shared → Prop} {s : Shared}
end
section
variable {X : Cx} {pos p kp kpos : Pos} {x : Str} {a : Expr} {t : TA} {kj}
noncomputable def Zff (K : PySem.W.Frag) : List V → Hp → VK → Prop := fun xs H Q => ∃ (p : Addr) (vs : List V) (qs : List (Int × Int)), xs = [.ref p] ∧ SqL K H p vs ∧ vs.length = qs.length ∧ (∀ (i : Nat) (q : Int × Int), qs[i]? = some q → ∃ a : Addr, vs[i]? = some (V.ref a) ∧ SqT K H a [.int q.1, .int q.2]) ∧
 (qs = [] → Q .non H) ∧ ∀ (i : Nat) (q : Int × Int) (v : V), qs[i]? = some q → vs[i]? = some v → (∀ r ∈ qs, ltP r q = false) → Q v H
noncomputable def Ze5 (ta : DTA) : DTE := fun Δ M Φ => ta Δ M fun xs M1 => on1 xs fun x => ∃ qs : List (Int × Int), OP x M1 (qs.map prD) ∧ (qs = [] → Φ (.dat .none) M1) ∧ ∀ q ∈ qs, (∀ r ∈ qs, ltP r q = false) → Φ (.dat (prD q)) M1
end
end DL
namespace DL
open PySem PySem.Spec PyProof.Rows L2 PySem.W
section
variable {prog : Program} {w : World} {A : Around} {E : Value → Shared → Prop} {s : Shared}
end
section
variable {prog : Program} {w : World} {A : Around} {E : Value → Shared → Prop} {s : Shared}
end
section
variable {X : Cx} {pins : List (Addr × Obj)} {σ : L2.St} {H : Hp} {s : Shared} {h' : Heap}
end
noncomputable def Ite (K : PySem.W.Frag) (a : Addr) : It :=
 ⟨fun i H => ∃ xs x, SqT K H a xs ∧ xs[i]? = some x, fun i H y H' => ∃ T x, (∀ xs, SqT K H a xs → xs[i]? = some x) ∧ H T = none ∧ y = .ref T ∧ H' = upd H T (.tup [.int i, x]), fun i H => ∃ xs, SqT K H a xs ∧ xs.length ≤ i⟩
section
variable {X : Cx}
noncomputable def Zfz (K : PySem.W.Frag) (ta : TA) : TI := fun σ H R => ta σ H fun vs H1 => ∃ a, vs = [.ref a] ∧ (∃ xs, SqT K H1 a xs) ∧ R (Ite K a) H1
noncomputable def Zc9 (ds : List PyData) : List PyData := ds.mapIdx fun i d => .tuple [.int i, d]
noncomputable def ZfV (ta : DTA) : Wx := fun Δ M Ψ => ta Δ M fun xs M1 => on1 xs fun x => onT x fun ds => Ψ (Zc9 ds) M1
end
theorem Pw {P : Program} {w : World} {K : PySem.W.Frag} {mg : Str → Option Value} {base : Heap} {k : Nat} {f : Addr} {fd : FuncData} {ps : List Str} {S : DSp} (h : ∀ xs M Φ, ¬ S xs M Φ) : ZE P w K mg base CX0 k f fd ps (lift K S) :=
 ⟨fun vs H Q E z => by obtain ⟨xs, M, Φ, _, _, z, _⟩ := z; exact absurd z (h _ _ _), fun A outer s H args us vs Q E _ _ _ _ z => by obtain ⟨xs, M, Φ, _, _, z, _⟩ := z; exact absurd z (h _ _ _)⟩
end DL
namespace DL
open PySem PySem.Spec PyProof.Rows L2 PySem.W
section
variable {prog : Program} {w : World} {A : Around} {E : Value → Shared → Prop} {s : Shared}
end
section
variable {X : Cx} {pos : Pos}
noncomputable def Zax (n : Nat) (t : Eo) : DTG := fun x Δ M Φ => onL x fun ds => LM n ds fun xs => t xs Δ M Φ
end
end DL
namespace DL
open PySem PySem.Spec PyProof.Rows L2 PySem.W
section
variable {X : Cx}
theorem Om (hu : X.A.units < cLine) : OpR X (compareOp .NotEq) (fun x y H Q => ∃ a b xs, x = .ref a ∧ y = .ref b ∧ SqL X.K H a xs ∧ SqL X.K H b [] ∧ Q (.bl (!xs.isEmpty)) H) := by
 intro pins s σ H x y v u Q I rx ry h
 obtain ⟨a, b, xs, rfl, rfl, h1, h2, q⟩ := h
 cases rx
 cases ry
 obtain ⟨its, r, p, _⟩ := I.list h1
 obtain ⟨jts, r2, p2, _⟩ := I.list h2
 cases r2
 have hl := r.length
 cases xs with
 | nil =>
  have e : its.toArray.size = ([] : List Value).toArray.size := by rw [List.size_toArray, List.size_toArray]; exact hl.symm
  refine PySem.SeqAt.RcNeAt.lists (e := fun _ => true) p.isList p2.isList e hu (fun j h1 h2 => absurd h2 (Nat.not_lt_zero _)) _ _ _ _ ⟨.bl _, H, I, ?_, q⟩
  show Value.bool (!(List.range its.toArray.size).all fun _ => true) = _
  rw [e]
  rfl
 | cons x xs =>
  refine PySem.SeqAt.RcNeAt.lists_lengths p.isList p2.isList ?_ hu _ _ _ _ ⟨.bl _, H, I, rfl, q⟩
  rw [List.size_toArray, ← hl]
  rfl
noncomputable def HA : D2 := fun x y M Φ => onK x M fun ds => onK y M fun es => es = [] ∧ Φ (.dat (.bool (!ds.isEmpty))) M
theorem MT {k : Nat} (hr : Y8 k X.A) : OpD X (compareOp .NotEq) HA := by
 refine ⟨_, Om (by have := hr.un; omega), fun v u H x y M Φ Q r rv ru h k => ?_⟩
 replace h := Wn h
 obtain ⟨ds, hx, h⟩ := h
 replace h := Wn h
 obtain ⟨es, hy, rfl, q⟩ := h
 replace hx : OP x M ds := hx
 replace hy : OP y M [] := hy
 obtain ⟨a, xs, rfl, h1, h2⟩ := hx.sq r rv
 obtain ⟨b, ys, rfl, h3, h4⟩ := hy.sq r ru
 cases h4
 refine ⟨a, b, xs, rfl, rfl, h1, h3, ?_⟩
 have e : xs.isEmpty = ds.isEmpty := by cases h2 <;> rfl
 rw [e]
 exact k.dat r Step.refl (Dt.bl _) q
noncomputable def HI : D2 := fun x y M Φ => onK x M fun ds => onK y M fun es => ds.length + es.length ≤ sizeLine ∧ ∀ p, M p = none → Φ (.own p) (Z3 M p (.lst (ds ++ es)))
theorem Nc : OpD X (binaryOp .Add) HI := by
 refine ⟨_, CS, fun v u H x y M Φ Q r rv ru h k => ?_⟩
 replace h := Wn h
 obtain ⟨ds, hx, h⟩ := h
 replace h := Wn h
 obtain ⟨es, hy, hz, q⟩ := h
 replace hx : OP x M ds := hx
 replace hy : OP y M es := hy
 obtain ⟨a, xs, rfl, h1, h2⟩ := hx.sq r rv
 obtain ⟨b, ys, rfl, h3, h4⟩ := hy.sq r ru
 refine ⟨a, b, xs, ys, rfl, rfl, h1, h3, by rw [h2.length, h4.length]; exact hz, fun p hp => ?_⟩
 exact k _ _ (.own p) _ (r.XF (Step.Yg hp) (h2.append h4)) (Step.Yg hp) rfl (q p (r.tracked hp))
noncomputable def HJ : D1 := fun xs M Φ => on1 xs fun x => onI x fun i => Φ (.dat (.bool (i != 0))) M
theorem Hf : VO X (.type "bool") HJ := by
 refine ⟨_, Dl, fun vs H xs M Φ Q r rv h k => ?_⟩
 replace h := Qa h
 obtain ⟨x, rfl, h⟩ := h
 replace h := ZO h
 obtain ⟨i, rfl, q⟩ := h
 obtain ⟨v, rfl, h1⟩ := Paired.one rv
 cases (show v = .int i from QT.int h1)
 exact .inl ⟨i, rfl, k.dat r Step.refl (Dt.bl _) q⟩
theorem Lj (x y : DV) (M : Mp) (Φ : DK) : HA x y M Φ = (onK x M fun ds => onK y M fun es => es = [] ∧ Φ (.dat (.bool (!ds.isEmpty))) M) := propext Iff.rfl
theorem LF (x y : DV) (M : Mp) (Φ : DK) : HI x y M Φ = (onK x M fun ds => onK y M fun es => ds.length + es.length ≤ sizeLine ∧ ∀ p, M p = none → Φ (.own p) (Z3 M p (.lst (ds ++ es)))) := propext Iff.rfl
theorem EN (xs : List DV) (M : Mp) (Φ : DK) : HJ xs M Φ = (on1 xs fun x => onI x fun i => Φ (.dat (.bool (i != 0))) M) := propext Iff.rfl
end
noncomputable def isS (h : PyData) (s : Str) : Bool := match h with | .str t => decide (t = s) | _ => false
theorem VM {h : PyData} {s : Str} {P : Bool → Prop} (hl : h.canLay0 = true) (hs : (PyData.str s).canLay0 = true) (p : P (isS h s)) : eqD h (.str s) P := by
 cases h with
 | str t => exact p
 | dict _ => simp [PyData.canLay0] at hl
 | _ =>
  refine ⟨?_, ?_⟩
  ·unfold ZdQ
   rw [hl, hs]
   simp [PyData.depth]
  ·simp only [PyData.eqv]
   exact p
end DL
namespace DL
open PySem PySem.Spec PyProof.Rows L2 PySem.W PySem.SeqAt PySem.MeetsSeq
theorem Jn (l : Addr) (es : Array DictEntry) (n : Nat) (dd : Option Addr) (sl : Array (Option Value)) (b : Str) (u : Tok) :
  Meets (Builtin.«dict.__eq__» ⟨[.ref l, .str b u], []⟩) (fun _ R s => s.heap.get? l = some { cls := .type "dict", dict := dd, data := .dict es n, slots := sl } ∧ R (.ok (.ret .notImplemented)) s) :=
 .of_wp fun prog w A R s h => by
  obtain ⟨hp, g, d, tk, os⟩ := s; obtain ⟨hl, h⟩ := h
  have f1 := F.sub_str_dict
  wp_walk using wpAny_loadPart' hl
  exact ⟨_, rfl, h⟩
theorem Jl (b : Str) (u : Tok) (l : Addr) (c : Value) (es : Array DictEntry) (n : Nat) (dd : Option Addr) (sl : Array (Option Value)) :
  Meets (Builtin.«str.__eq__» ⟨[.str b u, .ref l], []⟩) (fun _ R s => s.heap.get? l = some { cls := c, dict := dd, data := .dict es n, slots := sl } ∧ R (.ok (.ret .notImplemented)) s) :=
 .of_wp fun prog w A R s h => by obtain ⟨hp, g, d, tk, os⟩ := s; obtain ⟨hl, h⟩ := h; wp_walk using wpAny_loadPart' hl, wpAny_load hl; exact ⟨_, rfl, h⟩
section
variable {A : Around} {s : Shared}
noncomputable def ZcW (h : Heap) (l : Addr) : Prop := ∃ (o : Obj) (es : Array DictEntry) (n : Nat), h.get? l = some o ∧ o.cls = .type "dict" ∧ o.data = .dict es n
theorem G0 {l : Addr} (b : Str) (u : Tok) (hl : ZcW s.heap l) (hu : A.units < cLine) : RcAt A s (.str b u) (.ref l) false := fun prog w E Q h => by
 obtain ⟨⟨cls, dd, data, sl⟩, es, n, ho, hc, hd⟩ := hl
 simp only at hc hd
 subst hc hd
 exact rc_eq_decline_or (k := false) (typeIs_str s b u) ⟨_, ho, rfl⟩ (by decide) F.sub_dict_str F.slot_str_eq F.slot_dict_eq_refl
  (fun _ hq => call_meets F.slot_str_eq (typeIs_str s b u) F.entry_str_eq (F.args_str_eq_2 _ _) (Jl b u l (.type "dict") es n dd sl) ⟨ho, hq⟩)
  (fun _ hq => call_meets F.slot_dict_eq_refl ⟨_, ho, rfl⟩ F.entry_dict_eq (F.args_dict_eq_2 _ _) (Jn l es n dd sl b u) ⟨ho, hq⟩)
  (fun _ hq => wpAny_of_eq (rfl : isSame (.str b u) (.ref l) = pure false) hq) (.inr hu) h
theorem GY {l : Addr} (b : Str) (u : Tok) (hl : ZcW s.heap l) (hu : A.units < cLine) : EqAt A s (.str b u) (.ref l) false := fun prog w E Q h => by
 unfold eqBool
 refine wpAny_holding ?_
 refine wpAny_ite_split (fun hab => absurd (eq_of_beq hab) nofun) (fun _ => ?_)
 exact wpAny_bind (G0 b u hl hu prog w E _ (wpAny_truthy_bool h))
end
section
variable {X : Cx}
inductive Bs (h : Heap) (b : Bool) (t : Str) : Value → Prop
 | non : b = false → Bs h b t .none
 | bl (k : Bool) : b = false → Bs h b t (.bool k)
 | int (i : Int) (u : Tok) : b = false → Bs h b t (.int i u)
 | str (x : Str) (u : Tok) : b = decide (x = t) → Bs h b t (.str x u)
 | tup {a : Addr} {items : Array Value} : h.IsTuple a items → b = false → Bs h b t (.ref a)
 | lst {a : Addr} {items : Array Value} : h.IsList a items → b = false → Bs h b t (.ref a)
 | dic {a : Addr} : ZcW h a → b = false → Bs h b t (.ref a)
theorem Bs.eq {A : Around} {s : Shared} {b : Bool} {t : Str} {v : Value} (u : Tok) (h : Bs s.heap b t v) (hu : A.units < cLine) : EqAt A s (.str t u) v b := by
 cases h with
 | non e => rw [e]; exact EqAt.str_none t u
 | bl k e => rw [e]; exact EqAt.str_bool t u k
 | int i w e => rw [e]; exact EqAt.str_int t u i w
 | str x w e =>
  have e2 : b = (t == x) := by rw [e, Bool.beq_eq_decide_eq, decide_eq_decide]; exact eq_comm
  rw [e2]
  exact EqAt.str_str t u x w
 | tup p e => rw [e]; exact EqAt.str_tuple t u p hu
 | lst p e => rw [e]; exact EqAt.str_list t u p hu
 | dic p e => rw [e]; exact GY t u p hu
noncomputable def Zft : D2 := fun x y M Φ => onD x fun d => onS y fun t => Φ (.dat (.bool (isS d t))) M
noncomputable def Zfh : D2 := fun x y M Φ => onD x fun d => onT y fun ds => ∃ ts : List Str, ds = ts.map PyData.str ∧ Φ (.dat (.bool (ts.any (isS d)))) M
end
end DL
namespace DL
open PySem PySem.Spec PyProof.Rows L2 PySem.W
section
variable {X : Cx} {pos : Pos}
noncomputable def ZeA (tk0 tk1 tk2 tk3 tk4 tk5 tv0 tv1 tv2 tv3 tv4 tv5 : DTE) : DTE := fun Δ M Φ => tk0 Δ M fun x0 M1 => tv0 Δ M1 fun y0 M2 => tk1 Δ M2 fun x1 M3 => tv1 Δ M3 fun y1 M4 => tk2 Δ M4 fun x2 M5 => tv2 Δ M5 fun y2 M6 => tk3 Δ M6 fun x3 M7 => tv3 Δ M7 fun y3 M8 => tk4 Δ M8 fun x4 M9 => tv4 Δ M9 fun y4 M10 => tk5 Δ M10 fun x5 M11 => tv5 Δ M11 fun y5 M12 => onS x0 fun s0 => onD y0 fun d0 => onS x1 fun s1 => onD y1 fun d1 => onS x2 fun s2 => onD y2 fun d2 => onS x3 fun s3 => onD y3 fun d3 => onS x4 fun s4 => onD y4 fun d4 => onS x5 fun s5 => onD y5 fun d5 => ([s0, s1, s2, s3, s4, s5] : List Str).Nodup ∧ ∀ p, M12 p = none → Φ (.own p) (Z3 M12 p (.dkv [(Sum.inr s0, d0), (Sum.inr s1, d1), (Sum.inr s2, d2), (Sum.inr s3, d3), (Sum.inr s4, d4), (Sum.inr s5, d5)]))
noncomputable def ZfL : D2 := fun x y M Φ => onO x fun l => onI y fun i => XT (M l) fun ds => (0 ≤ i ∧ i < 2 ^ 63 ∧ ds.length * i.toNat ≤ sizeLine) ∧ Φ (.dat (.list (List.replicate i.toNat ds).flatten)) M
end
end DL
namespace DL
open PySem PySem.Spec PyProof.Rows L2 PySem.W PySem.SeqAt PySem.MeetsSeq
section
variable {X : Cx}
noncomputable def Zey : D2 := fun x y M Φ => onT x fun ds => onI y fun k => (2 ≤ k ∧ k ≤ 1000 ∧ 1 ≤ ds.length ∧ ds.length ≤ 1000) ∧ Φ (.dat (.tuple (List.replicate k.toNat ds).flatten)) M
theorem NT : OpR X (binaryOp .Add) (fun x y H Q => ∃ a b xs ys, x = .ref a ∧ y = .ref b ∧ SqT X.K H a xs ∧ SqT X.K H b ys ∧ xs.length + ys.length ≤ sizeLine ∧
  (xs = [] → Q (.ref b) H) ∧ (xs ≠ [] → ys = [] → Q (.ref a) H) ∧ (xs ≠ [] → ys ≠ [] → ∀ p, H p = none → Q (.ref p) (upd H p (.tup (xs ++ ys))))) := by
 intro pins s σ H x y v u Q I rx ry h
 obtain ⟨a, b, xs, ys, rfl, rfl, ha, hb, hz, q0, q1, q2⟩ := h
 by_cases hx : xs = []
 ·cases rx
  cases ry
  obtain ⟨its, r1, p1, _⟩ := I.tuple ha
  obtain ⟨its2, r2, p2, _⟩ := I.tuple hb
  obtain ⟨⟨cls, dd, data, sl⟩, ho, hc, n, hd⟩ := id p1
  obtain ⟨⟨cls2, dd2, data2, sl2⟩, ho2, hc2, n2, hd2⟩ := id p2
  simp only at hc hd hc2 hd2
  subst hc hd hc2 hd2
  have he : its = [] := r1.WS.mpr hx
  exact concat_meets ⟨_, ho, rfl⟩ ⟨_, ho2, rfl⟩ noFill_tuple_add seq_tuple_add PySem.F.slot_tuple_add PySem.F.entry_tuple_add (PySem.F.args_tuple_add_2 _ _)
   (tuple_addW0 a b its.toArray its2.toArray n n2 dd dd2 sl sl2 (by rw [he]; rfl)) ⟨ho, ho2, ⟨.ref b, H, I, rfl, q0 hx⟩⟩
 ·exact RR pins s σ H _ _ v u Q I rx ry ⟨a, b, xs, ys, rfl, rfl, ha, hb, hx, hz, q1 hx, q2 hx⟩
noncomputable def FN : D2 := fun x y M Φ => onT x fun ds => onT y fun es => ds.length + es.length ≤ sizeLine ∧ Φ (.dat (.tuple (ds ++ es))) M
theorem YD : OpD X (binaryOp .Add) FN := by
 refine ⟨_, NT, fun v u H x y M Φ Q r rv ru h k => ?_⟩
 replace h := XE h
 obtain ⟨ds, rfl, h⟩ := h
 replace h := XE h
 obtain ⟨es, rfl, hz, q⟩ := h
 obtain ⟨a, xs, rfl, h1, h2⟩ := id rv.tup
 obtain ⟨b, ys, rfl, h3, h4⟩ := id ru.tup
 refine ⟨a, b, xs, ys, rfl, rfl, h1.sq, h3.sq, by rw [h2.length, h4.length]; exact hz, fun e => ?_, fun e e2 => ?_, fun e e2 p hp => ?_⟩
 ·subst e
  cases h2
  exact k _ _ _ _ r Step.refl ru q
 ·subst e2
  cases h4
  rw [List.append_nil] at q
  exact k _ _ _ _ r Step.refl rv q
 ·exact k.dat (r.new hp) (Step.new hp) (Dt.WB r hp (h2.append h4)) q
theorem FU (x y : DV) (M : Mp) (Φ : DK) : FN x y M Φ = (onT x fun ds => onT y fun es => ds.length + es.length ≤ sizeLine ∧ Φ (.dat (.tuple (ds ++ es))) M) := propext Iff.rfl
end
end DL
namespace DL
open PySem PySem.Spec PyProof.Rows L2 PySem.W
noncomputable def Rsg (l : List Nat) : Prop := l.Pairwise (· < ·)
theorem Rsg.lt {l : List Nat} (h : Rsg l) {i j u v : Nat} (hi : l[i]? = some u) (hj : l[j]? = some v) (hij : i < j) : u < v := by
 obtain ⟨h1, rfl⟩ := List.getElem?_eq_some_iff.mp hi
 obtain ⟨h2, rfl⟩ := List.getElem?_eq_some_iff.mp hj
 exact (List.pairwise_iff_getElem.mp h) i j h1 h2 hij
noncomputable def Spl (l : List Nat) (j r : Nat) : Prop := (∀ k v, k < r → l[k]? = some v → v < j) ∧ (∀ k v, r ≤ k → l[k]? = some v → j ≤ v) ∧ r ≤ l.length
theorem WZ {xs : Array Nat} (h : Rsg xs.toList) (j : Nat) : ∀ fuel lo hi, hi - lo ≤ fuel → lo ≤ hi → hi ≤ xs.size → (∀ k v, k < lo → xs.toList[k]? = some v → v < j) → (∀ k v, hi ≤ k → xs.toList[k]? = some v → j ≤ v) → Spl xs.toList j (SetTable.below.go xs j fuel lo hi)
 | 0, lo, hi, hf, hl, hs, h1, h2 => by
  have e : hi = lo := by omega
  subst e
  exact ⟨h1, h2, by rw [Array.length_toList]; exact hs⟩
 | fuel + 1, lo, hi, hf, hl, hs, h1, h2 => by
  unfold SetTable.below.go
  by_cases hlt : lo < hi
  ·rw [if_pos hlt]
   dsimp only
   have hm : (lo + hi) / 2 < xs.size := by omega
   have hg : xs.toList[(lo + hi) / 2]? = some (xs.getD ((lo + hi) / 2) j) := by
    rw [Array.getElem?_toList, Array.getElem?_eq_getElem hm]
    simp [Array.getD, hm]
   by_cases hc : xs.getD ((lo + hi) / 2) j < j
   ·rw [if_pos hc]
    refine WZ h j fuel _ _ (by omega) (by omega) hs (fun k v hk hv => ?_) h2
    by_cases e : k = (lo + hi) / 2
    ·rw [e, hg] at hv
     cases hv
     exact hc
    ·exact Nat.lt_trans (h.lt hv hg (by omega)) hc
   ·rw [if_neg hc]
    refine WZ h j fuel _ _ (by omega) (by omega) (by omega) h1 (fun k v hk hv => ?_)
    by_cases e : k = (lo + hi) / 2
    ·rw [e, hg] at hv
     cases hv
     omega
    ·have := h.lt hg hv (by omega)
     omega
  ·rw [if_neg hlt]
   have e : hi = lo := by omega
   subst e
   exact ⟨h1, h2, by rw [Array.length_toList]; exact hs⟩
theorem Kg {xs : Array Nat} (h : Rsg xs.toList) (j : Nat) : Spl xs.toList j (SetTable.below xs j) := by
 unfold SetTable.below
 exact WZ h j _ _ _ (by omega) (by omega) (Nat.le_refl _) (fun k v hk => absurd hk (by omega)) fun k v hk hv => by
  have := (List.getElem?_eq_some_iff.mp hv).1
  rw [Array.length_toList] at this
  omega
theorem Di {xs : Array Nat} (h : Rsg xs.toList) {j : Nat} (hn : xs[SetTable.below xs j]? ≠ some j) : Rsg (SetTable.insertAt xs (SetTable.below xs j) j).toList := by
 obtain ⟨h1, h2, h3⟩ := Kg h j
 rw [SetTable.toList_insertAt]
 have hd : ∀ v ∈ xs.toList.drop (SetTable.below xs j), j < v := fun v hv => by
  obtain ⟨k, hk⟩ := List.mem_iff_getElem?.mp hv
  rw [List.getElem?_drop] at hk
  have l1 := h2 _ v (Nat.le_add_right _ k) hk
  by_cases e : k = 0
  ·rw [e, Nat.add_zero, Array.getElem?_toList] at hk
   rcases Nat.lt_or_eq_of_le l1 with z | z
   ·exact z
   ·rw [← z] at hk
    exact absurd hk hn
  ·have hb := (List.getElem?_eq_some_iff.mp hk).1
   have := h.lt (List.getElem?_eq_getElem (show SetTable.below xs j < xs.toList.length by omega)) hk (by omega)
   have := h2 _ _ (Nat.le_refl _) (List.getElem?_eq_getElem (show SetTable.below xs j < xs.toList.length by omega))
   omega
 have ht : ∀ u ∈ xs.toList.take (SetTable.below xs j), u < j := fun u hu => by
  obtain ⟨k, hk⟩ := List.mem_iff_getElem?.mp hu
  rw [List.getElem?_take] at hk
  split at hk
  ·exact h1 k u (by assumption) hk
  ·cases hk
 refine List.pairwise_append.mpr ⟨h.sublist (List.take_sublist _ _), List.pairwise_cons.mpr ⟨hd, h.sublist (List.drop_sublist _ _)⟩, fun u hu v hv => ?_⟩
 rcases List.mem_cons.mp hv with rfl | hv
 ·exact ht u hu
 ·exact Nat.lt_trans (ht u hu) (hd v hv)
structure TOk (bt : Bool) (t : SetTable) : Prop where
 led : t.led = !bt
 dm : t.dummies = #[]
 up : t.plain = true → Rsg t.place.toList
theorem Rb {t : SetTable} (h : t.dummies = #[]) (j : Nat) : t.slot j ≠ .dummy := by
 unfold SetTable.slot SetTable.has
 rw [h]
 dsimp only
 split
 ·exact fun e => nomatch e
 ·simp
theorem Kh {t : SetTable} {f : Nat → Int} {h : Int} (hd : t.dummies = #[]) : ∀ (fuel : Nat) (p : SetTable.Probe), p.dummy = none → ∀ j d, SetTable.probe.go t f h fuel p = some (.empty j d) → d = none ∧ t.slot j = .empty
 | 0, p, _, j, d, e => by unfold SetTable.probe.go at e; cases e
 | fuel + 1, p, hp, j, d, e => by
  unfold SetTable.probe.go at e
  cases q : t.slot p.j with
  | empty =>
   rw [q] at e
   cases e
   exact ⟨hp, q⟩
  | dummy => exact absurd q (Rb hd _)
  | live i =>
   rw [q] at e
   dsimp only at e
   split at e
   ·cases e
   ·refine Kh hd fuel _ ?_ j d e
    unfold SetTable.advance
    split
    ·exact hp
    ·exact hp
theorem NP {t : SetTable} {h : Int} {j : Nat} {b : Bool} (hd : t.dummies = #[]) (e : t.freeSlot h = some (j, b)) : t.place[SetTable.below t.place j]? ≠ some j := by
 unfold SetTable.freeSlot at e
 split at e
 ·rename_i j' d' q
  unfold SetTable.probe at q
  obtain ⟨rfl, hs⟩ := Kh hd _ _ rfl _ _ q
  simp only [Option.getD_none, Option.isSome_none, Option.some.injEq, Prod.mk.injEq] at e
  obtain ⟨rfl, _⟩ := e
  unfold SetTable.slot at hs
  dsimp only at hs
  intro z
  rw [if_pos (by rw [z]; simp)] at hs
  cases hs
 ·cases e
theorem TOk.LU {bt : Bool} {t : SetTable} (h : TOk bt t) (n : Nat) : TOk bt (t.standIn n) := ⟨h.led, rfl, fun e => by simp [SetTable.standIn] at e⟩
theorem TOk.new {bt : Bool} {t : SetTable} (h : TOk bt t) (es : Array (Int × Value)) (k : Int) (x : Value) : TOk bt (layNew t es k x).2.1 := by
 unfold layNew
 split
 ·rename_i sl wd e
  have hn := NP h.dm e
  have hp : TOk bt (t.put sl).1 := by
   unfold SetTable.put
   refine ⟨h.led, ?_, fun e => Di (h.up e) hn⟩
   show (if SetTable.has t.dummies sl = true then _ else t.dummies) = #[]
   rw [h.dm]
   split
   ·simp [SetTable.eraseAt]
   ·rfl
  dsimp only
  unfold SetTable.orStandIn
  split
  ·exact hp
  ·exact hp.LU _
 ·exact h.LU _
theorem Rh (f : Nat → Option Nat) (n : Nat) : Rsg ((((List.range n).filterMap fun j => (f j).map (j, ·)).map (·.1))) := by
 have h : (((List.range n).filterMap fun j => (f j).map (j, ·)).map (·.1)).Sublist (List.range n) := by
  induction (List.range n) with
  | nil => exact .slnil
  | cons a l ih =>
   rw [List.filterMap_cons]
   cases f a with
   | none => exact ih.cons a
   | some v => exact ih.cons₂ a
 exact List.pairwise_lt_range.sublist h
theorem TOk.re {bt : Bool} {t : SetTable} (h : TOk bt t) (es : Array (Int × Value)) (n : Nat) : TOk bt (relayAll t es n).2.1 := by
 unfold relayAll
 split
 ·rename_i t' order e
  dsimp only
  split
  ·unfold SetTable.relaid SetTable.laid at e
   cases q : SetTable.layClean (SetTable.sizeAbove n - 1) (es.map (·.1)) with
   | none => rw [q] at e; cases e
   | some ow =>
    rw [q] at e
    simp only [Option.pure_def, Option.bind_eq_bind, Option.bind_some, Option.some.injEq, Prod.mk.injEq] at e
    obtain ⟨rfl, _⟩ := e
    exact ⟨h.led, rfl, fun _ => by simpa using Rh (fun j => ow.getD j none) _⟩
  ·exact h.LU _
 ·exact h.LU _
end DL
namespace DL
open PySem PySem.Spec PyProof.Rows L2 PySem.W
noncomputable def Fp : Value → Int
 | .int i _ => i
 | _ => 0
noncomputable abbrev Ep := Array (Int × Value)
noncomputable def KS (es : Ep) : List Int := es.toList.map fun e => Fp e.2
structure ZcN (P : Program) (w : World) (o : Obj) (es : Ep) (t : SetTable) : Prop where
 ex : o.ExactSet
 dt : ∃ ep, o.data = .set es ep t
 el : ElemsOf (intKind P w) es.toList
 bd : es.size < scanBound
 ft : t.fits es.size = true
 ok : TOk (w.params.followText "set-order") t
 nd : (KS es).Nodup
noncomputable def SI (P : Program) (w : World) (h : Heap) (a : Addr) (ks : List Int) : Prop := ∃ o es t, h.get? a = some o ∧ ZcN P w o es t ∧ ks = KS es
section
variable {P : Program} {w : World} {A : Around} {E : Value → Shared → Prop} {s : Shared}
theorem CO {es : List (Int × Value)} (h : ElemsOf (intKind P w) es) {e : Int × Value} (he : e ∈ es) : ∃ t, e.2 = .int (Fp e.2) t := by
 obtain ⟨⟨k, hk, _⟩, _⟩ := h e he
 obtain ⟨t, q⟩ := Value.isInt_shape (k := k) (v := e.2) hk
 rw [q]
 exact ⟨t, rfl⟩
theorem SI.size {h : Heap} {a : Addr} {ks : List Int} (hS : SI P w h a ks) : ks.length < scanBound := by
 obtain ⟨o, es, t, _, so, rfl⟩ := hS
 unfold KS
 rw [List.length_map, Array.length_toList]
 exact so.bd
theorem SI.same {h h' : Heap} {a : Addr} {ks : List Int} (hS : SI P w h a ks) (k : ∀ o, h.get? a = some o → h'.get? a = some o) : SI P w h' a ks := by
 obtain ⟨o, es, t, g, r⟩ := hS
 exact ⟨o, es, t, k o g, r⟩
theorem stored {a : Addr} {o : Obj} {es es' : Ep} {t t' : SetTable} (g : s.heap.get? a = some o) (so : ZcN P w o es t) (el : ElemsOf (intKind P w) es'.toList) (bd : es'.size < scanBound) (ft : t'.fits es'.size = true) (ok : TOk (w.params.followText "set-order") t') (nd : (KS es').Nodup) :
  ∃ o', (s.heap.update a (Obj.putSet es' t')).get? a = some o' ∧ ZcN P w o' es' t' := by
 obtain ⟨ep, hd⟩ := so.dt
 have e := putSet_of es' t' hd
 have q := Heap.get?_update_self (Obj.putSet es' t') g (by rw [e]; rfl)
 rw [e] at q
 exact ⟨_, q, so.ex, ⟨_, rfl⟩, el, bd, ft, ok, nd⟩
theorem O0 {a : Addr} {o : Obj} {es es' : Ep} {t t' : SetTable} {Q : Unit → Shared → Prop} (g : s.heap.get? a = some o) (so : ZcN P w o es t) (bd : es'.size < scanBound) (h : Q () { s with heap := s.heap.update a (Obj.putSet es' t') }) : wpAny (model P w) A (storeSet a es' t') Q E s := by
 obtain ⟨ep, hd⟩ := so.dt
 exact wpAny_storeSet_of g hd h (fits_of_scanBound bd)
theorem SA {a : Addr} {k : Int} {tok : Tok} {ks : List Int} {Q : Bool → Shared → Prop} (hS : SI P w s.heap a ks) (room : ks.length + 1 < scanBound)
  (h : ∀ h' ks' b, Heap.SameBut a s.heap h' → SI P w h' a ks' → (∀ z, z ∈ ks' ↔ z ∈ ks ∨ z = k) → ks'.length ≤ ks.length + 1 → Q b { s with heap := h' }) :
  wpAny (model P w) A (setAddHashed a (.int k tok) ((intKind P w).hash k)) Q E s := by
 obtain ⟨o, es, t, g, so, rfl⟩ := hS
 obtain ⟨ep, hd⟩ := so.dt
 have len : (KS es).length = es.size := by unfold KS; rw [List.length_map, Array.length_toList]
 have key : (intKind P w).is k (.int k tok) = true := intKind_is _ _ _ _
 have gv : ∀ (b : Bool) {s₁ : Shared} {Q' : Unit → Shared → Prop}, Q' () s₁ → wpAny (model P w) A (match b with | true => rule "set.scan.the-table-gave-way" | false => pure ()) Q' E s₁ :=
  fun b s₁ Q' hq => match b with | false => wpAny_pure hq | true => wpAny_rule hq
 unfold setAddHashed setAddHashedIn
 refine wpAny_holding (wpAny_bind (wpAny_setState_of g hd so.ft ?_)); dsimp only
 rw [byScan_of (knd := intKind P w) (x := .int k tok) rfl so.bd so.el]; simp only [↓reduceIte]; unfold setAddByScan
 refine wpAny_bind (wpAny_bind (wpAny_rule (wpAny_bind (wpAny_setScan_of key g hd so.ft so.el ?_))))
 cases hr : List.findIdx? (fun e => (intKind P w).is k e.2) es.toList with
 | some j =>
  obtain ⟨hj, hpj, _⟩ := List.findIdx?_eq_some_iff_getElem.mp hr
  have hin : k ∈ KS es := by
   obtain ⟨t', q⟩ := Value.isInt_shape (k := k) hpj
   exact List.mem_map.mpr ⟨es.toList[j], List.getElem_mem hj, by rw [q]; rfl⟩
  refine wpAny_pure (wpAny_pure ?_)
  exact h s.heap (KS es) false (Heap.SameBut.refl a s.heap) ⟨o, es, t, g, so, rfl⟩ (fun z => ⟨.inl, fun q => q.elim id fun e => e ▸ hin⟩) (Nat.le_succ _)
 | none =>
  have hno : k ∉ KS es := fun hm => by
   obtain ⟨e, he, q⟩ := List.mem_map.mp hm
   obtain ⟨t', q'⟩ := CO so.el he
   have := List.findIdx?_eq_none_iff.mp hr e he
   rw [q', q] at this
   exact absurd (intKind_is P w k t') (by rw [this]; exact Bool.false_ne_true)
  have pm := layNew_perm t es ((intKind P w).hash k) (.int k tok)
  have ft := layNew_fits t es ((intKind P w).hash k) (.int k tok)
  have tk := so.ok.new es ((intKind P w).hash k) (.int k tok)
  dsimp only
  generalize layNew t es ((intKind P w).hash k) (.int k tok) = L at pm ft tk ⊢
  obtain ⟨e1, t1, wd, gave⟩ := L; dsimp only at pm ft tk ⊢; rw [Array.toList_push] at pm
  have el1 : ElemsOf (intKind P w) e1.toList := (so.el.push key rfl).perm pm
  have pk : (KS e1).Perm (KS es ++ [k]) := by
   have := pm.map fun e : Int × Value => Fp e.2
   rw [List.map_append] at this
   exact this
  have sz1 : e1.size = es.size + 1 := by rw [← Array.length_toList, pm.length_eq, List.length_append, Array.length_toList]; rfl
  have bd1 : e1.size < scanBound := by omega
  have nd1 : (KS e1).Nodup := pk.nodup_iff.mpr (List.nodup_append.mpr ⟨so.nd, List.nodup_cons.mpr ⟨(fun q => nomatch q), List.nodup_nil⟩, fun x hx y hy e => hno (by rw [List.mem_singleton.mp hy] at e; rw [← e]; exact hx)⟩)
  have mem1 : ∀ z, z ∈ KS e1 ↔ z ∈ KS es ∨ z = k := fun z => by rw [pk.mem_iff, List.mem_append, List.mem_singleton]
  have fin : ∀ (t2 : SetTable), t2.fits e1.size = true → TOk (w.params.followText "set-order") t2 → wpAny (model P w) A (do
     storeSet a e1 t2
     if (!wd && t2.tooFull) = true then do
       (match (relayAll t2 e1 (SetTable.grown e1.size)).2.2 with | true => rule "set.scan.the-table-gave-way" | false => pure ())
       storeSet a (relayAll t2 e1 (SetTable.grown e1.size)).1 (relayAll t2 e1 (SetTable.grown e1.size)).2.1
       pure (some true)
      else pure (some true)) (fun r s' => ∃ h' ks', s' = { s with heap := h' } ∧ r = some true ∧ Heap.SameBut a s.heap h' ∧ SI P w h' a ks' ∧ (∀ z, z ∈ ks' ↔ z ∈ KS es ∨ z = k) ∧ ks'.length ≤ (KS es).length + 1) E s := fun t2 ft2 tk2 => by
   obtain ⟨o1, g1, so1⟩ := stored (s := s) g so el1 bd1 ft2 tk2 nd1
   refine wpAny_bind (O0 g so bd1 ?_)
   have sb1 := Heap.SameBut.update s.heap a (Obj.putSet e1 t2)
   have ln1 : (KS e1).length ≤ (KS es).length + 1 := by rw [pk.length_eq, List.length_append]; exact Nat.le_refl _
   split
   ·have pm2 := relayAll_perm t2 e1 (SetTable.grown e1.size)
    have ft3 := relayAll_fits t2 e1 (SetTable.grown e1.size)
    have tk3 := tk2.re e1 (SetTable.grown e1.size)
    generalize relayAll t2 e1 (SetTable.grown e1.size) = L at pm2 ft3 tk3 ⊢
    obtain ⟨e2, t3, gave2⟩ := L; dsimp only at pm2 ft3 tk3 ⊢
    have pk2 : (KS e2).Perm (KS e1) := pm2.map _
    have sz2 : e2.size = e1.size := by rw [← Array.length_toList, pm2.length_eq, Array.length_toList]
    have bd2 : e2.size < scanBound := by omega
    obtain ⟨o2, g2, so2⟩ := stored (s := { s with heap := s.heap.update a (Obj.putSet e1 t2) }) g1 so1 (el1.perm pm2) bd2 ft3 tk3 (pk2.nodup_iff.mpr nd1)
    refine wpAny_bind (gv _ (wpAny_bind (O0 (s := { s with heap := s.heap.update a (Obj.putSet e1 t2) }) g1 so1 bd2 (wpAny_pure ?_))))
    exact ⟨_, _, rfl, rfl, sb1.trans (Heap.SameBut.update _ a _), ⟨o2, e2, t3, g2, so2, rfl⟩, fun z => (pk2.mem_iff).trans (mem1 z), by rw [pk2.length_eq]; exact ln1⟩
   ·exact wpAny_pure ⟨_, _, rfl, rfl, sb1, ⟨o1, e1, t2, g1, so1, rfl⟩, mem1, ln1⟩
  refine wpAny_bind (gv _ ?_)
  split
  ·rw [hashByValue_scannable 8 (x := .int k tok) rfl]
   refine wpAny_bind (wpAny_pure ?_)
   rw [show plainKind (Value.int k tok) = true from rfl]; simp only [↓reduceIte]
   exact wpAny_mono (fin t1 ft tk) (fun r s' ⟨h', ks', e1, e2, sb, hs, hm, hl⟩ => by subst e1 e2; exact wpAny_pure (h h' ks' true sb hs hm hl)) fun _ _ q => q
  ·refine wpAny_bind (wpAny_pure ?_); simp only [↓reduceIte]
   exact wpAny_mono (fin t1 ft tk) (fun r s' ⟨h', ks', e1, e2, sb, hs, hm, hl⟩ => by subst e1 e2; exact wpAny_pure (h h' ks' true sb hs hm hl)) fun _ _ q => q
end
end DL
namespace DL
open PySem PySem.Spec PyProof.Rows L2 PySem.W
section
variable {P : Program} {w : World} {A : Around} {R : Result → Shared → Prop} {I : Addr} {fp wr : List Addr} {G : Array GenState → Array GenState → Prop} {n : Nat} {Pv : Nat → Value → Prop} {St : Nat → Shared → Prop}
theorem Mj (W : WalksS P w A.in1 I fp wr G n Pv St) (S : Addr) (hSf : S ∉ fp) (val : Nat → Int) (hval : ∀ i v, Pv i v → ∃ t, v = .int (val i) t) (hb : n + 1 < scanBound) :
  ∀ (k i : Nat) (s : Shared) (ks : List Int), n - i = k → i ≤ n → St i s → SI P w s.heap S ks → ks.length ≤ i → (∀ z, z ∈ ks ↔ ∃ j, j < i ∧ z = val j) →
   (∀ s' ks', Moved (S :: wr) G s s' → SI P w s'.heap S ks' → (∀ z, z ∈ ks' ↔ ∃ j, j < n ∧ z = val j) → ks'.length ≤ n → R (.ok (.ret .none)) s') →
   codeAny (model P w) A (.builtin "set.update.loop" ⟨[.ref S, .ref I], []⟩) R s := by
 have hSw : S ∉ wr := fun h => hSf (W.sub _ h)
 have up : ∀ b, b ∈ wr → b ∈ S :: wr := fun _ h => List.mem_cons_of_mem _ h
 intro k
 induction k with
 | zero =>
  intro i s ks hk hi hst hS hl hm hR
  obtain rfl : i = n := by omega
  refine codeAny_builtin PyProof.Rows.F.entry_set_update_loop ?_; rw [Around.under_plainId PyProof.Rows.F.plain_set_update_loop _]
  refine wpAny_bind (W.done s _ _ hst fun s' mv => wpAny_pure ?_)
  exact hR s' ks (mv.mono up) (hS.same fun o e => mv.heap S o hSw e) hm hl
 | succ k ih =>
  intro i s ks hk hi hst hS hl hm hR
  have hlt : i < n := by omega
  refine codeAny_builtin PyProof.Rows.F.entry_set_update_loop ?_; rw [Around.under_plainId PyProof.Rows.F.plain_set_update_loop _]
  refine wpAny_bind (W.item i s _ _ hlt hst fun v s' hP hst' mv => ?_)
  obtain ⟨t, rfl⟩ := hval i v hP
  have hS' : SI P w s'.heap S ks := hS.same fun o e => mv.heap S o hSw e
  refine wpAny_bind (wpAny_holding ?_); unfold setAdd
  refine wpAny_holding (wpAny_bind ((intKind P w).pyHash (k := val i) (intKind_is _ _ _ _) ?_))
  refine SA (s := { s' with toks := s'.toks + 1 }) hS' (by omega) fun h' ks' b sb hS2 hm2 hl2 => ?_
  refine wpAny_pure ⟨plainId_quiet PyProof.Rows.F.plain_set_update_loop _, ih (i + 1) _ ks' (by omega) hlt (W.frame _ s' _ _ hst' (Nat.le_succ _) fun b hb o e => ?_) hS2 (by omega) (fun z => ?_) fun s'' ks'' mv'' hS'' hm'' hl'' => ?_⟩
  ·exact (sb.2 b fun h : b = S => hSf (by rw [← h]; exact hb)).trans e
  ·rw [hm2, hm]
   constructor
   ·rintro (⟨j, hj, e⟩ | e)
    ·exact ⟨j, by omega, e⟩
    ·exact ⟨i, by omega, e⟩
   ·rintro ⟨j, hj, e⟩
    by_cases ej : j = i
    ·exact .inr (by rw [e, ej])
    ·exact .inl ⟨j, by omega, e⟩
  ·exact hR s'' ks'' (Moved.trans W.gtrans ((mv.mono up).then_heap (Nat.le_succ _) fun b o hb e => (sb.2 b fun h : b = S => hb (by rw [h]; exact List.mem_cons_self)).trans e) mv'') hS'' hm'' hl''
end
section
variable {P : Program} {w : World} {A : Around} {E : Value → Shared → Prop} {s : Shared}
noncomputable def VL (w : World) : Obj := { cls := .type "set", dict := none, data := .set #[] 0 (.fresh 0 0 (!w.params.followText "set-order")) }
theorem OC {h : Heap} {a : Addr} (g : h.get? a = some (VL w)) : SI P w h a [] :=
 ⟨_, #[], _, g, ⟨⟨rfl, rfl, rfl⟩, ⟨0, rfl⟩, fun e he => by simp at he, by decide, rfl, ⟨rfl, rfl, fun _ => List.Pairwise.nil⟩, by simp [KS]⟩, rfl⟩
theorem Za5 (a : Value) {Q₁ : Value → Shared → Prop} (h : Q₁ (.ref s.heap.objs.size) { s with heap := s.heap.push (VL w) }) :
  codeAny (model P w) A (.call (.builtin "set.__new__") ⟨[.type "set", a], []⟩) (wants Q₁ E) s := by
 refine codeAny_of_tree ?_
 refine wpAny_bind (m := checkBuiltinCall "set.__new__" ⟨[.type "set", a], []⟩) (wpAny_of_eq (PySem.F.newCall_set_1 a) (wpAny_pure ⟨plainId_quiet PySem.F.plain_set_new _, codeAny_builtin PySem.F.entry_set_new ?_⟩))
 rw [Around.under_plainId PySem.F.plain_set_new _]; unfold Builtin.«set.__new__» Builtin.Frozenset.newClass
 have hsub := sub_set_self
 obtain ⟨hp, g, d, tk, os⟩ := s; dsimp only; wp_walk
 refine wpAny_askSetting (wpAny_pure ?_); dsimp only; simp only [newObj]
 exact wpAny_bind (wpAny_alloc (wpAny_pure (wpAny_pure h)))
theorem getD_mem {ns : List Int} {n : Nat} (hn : ns.length = n) (z : Int) : (∃ j, j < n ∧ z = ns.getD j 0) ↔ z ∈ ns := by
 subst hn
 constructor
 ·rintro ⟨j, hj, rfl⟩
  rw [List.getD_eq_getElem?_getD, List.getElem?_eq_getElem hj]
  exact List.getElem_mem hj
 ·intro hz
  obtain ⟨j, hj, e⟩ := List.mem_iff_getElem.mp hz
  exact ⟨j, hj, by rw [List.getD_eq_getElem?_getD, List.getElem?_eq_getElem hj]; exact e.symm⟩
set_option maxHeartbeats 4000000 in
theorem set_list {l : Addr} {items : Array Value} {ns : List Int} {Q : Value → Shared → Prop} (hh : A.handled = none) (hl : s.heap.IsList l items) (hi : IntsAre items.toList ns) (hb : items.size + 1 < scanBound)
  (h : ∀ (h' : Heap) (tk : Nat) (ks : List Int), SI P w h' s.heap.objs.size ks → (∀ z, z ∈ ks ↔ z ∈ ns) → ks.length ≤ ns.length → (∀ b o, b < s.heap.objs.size → s.heap.get? b = some o → h'.get? b = some o) → Q (.ref s.heap.objs.size) { s with heap := h', toks := tk }) :
  wpAny (model P w) A (call (.type "set") [.ref l]) Q E s := by
 obtain ⟨c, tl, hmro⟩ := PySem.F.called_set.mro
 have ln : ns.length = items.size := by rw [← IntsAre.length hi, Array.length_toList]
 have hmade := PySem.F.called_set.made; have hsub := PySem.F.called_set.sub
 refine wpAny_call (codeAny_of_tree ?_); show wpAny _ _ (callAny (.type "set") _) _ _ _
 refine wpAny_pure ⟨Code.quiet_builtin _ (by decide +kernel), codeAny_builtin PySem.F.entry_type_call ?_⟩
 rw [Around.under_plain (weight_type_call_type "set" [.ref l] []) rfl]
 have h1 := PySem.F.called_set.notType; have h2 := PySem.F.called_set.canCreate; have hct := PySem.F.typeCall_set_1 (.ref l)
 repeat (any_goals (first | assumption | wp_step))
 refine codeAny_mono (Za5 (P := P) (w := w) (.ref l) (E := E) (Q₁ := fun obj s₁ => obj = .ref s.heap.objs.size ∧ s₁ = { s with heap := s.heap.push (VL w) }) ⟨rfl, rfl⟩) fun r s₁ hr => ?_
 cases r with
 | error e => exact hr
 | ok fl =>
  cases fl with
  | ret obj =>
   obtain ⟨rfl, rfl⟩ := hr
   have hS : (s.heap.push (VL w)).get? s.heap.objs.size = some (VL w) := Heap.get?_push_size _ rfl
   have hT : Shared.TypeIs { s with heap := s.heap.push (VL w) } (.ref s.heap.objs.size) "set" := ⟨_, hS, rfl⟩
   have hli := PySem.F.called_set.init.lookup; have hbi := PySem.F.called_set.init.bind (.ref s.heap.objs.size)
   repeat (any_goals (first | assumption | wp_step))
   refine codeAny_mono (codeAny_call_builtin (R := wants (fun r s₂ => r = .none ∧ ∃ h' tk ks, s₂ = { s with heap := h', toks := tk } ∧ SI P w h' s.heap.objs.size ks ∧ (∀ z, z ∈ ks ↔ z ∈ ns) ∧ ks.length ≤ ns.length ∧ (∀ b o, b < s.heap.objs.size → s.heap.get? b = some o → h'.get? b = some o)) E)
    PySem.F.called_set.init.plain PySem.F.entry_set_init (check_set_init_1 hT ?_)) fun r₂ s₂ hr₂ => ?_
   ·obtain ⟨ol, hol, hcl, nl, hdl⟩ := hl
    obtain ⟨ocls, odict, odata, oslots⟩ := ol
    simp only at hcl hdl
    subst hcl; subst hdl
    have hol' : (s.heap.push (VL w)).get? l = some { cls := .type "list", dict := odict, data := .seq items nl, slots := oslots } := Heap.get?_push_of_some _ hol
    have hsls := PySem.F.sub_list_set; have hslf := PySem.F.sub_list_frozenset; have hne : (Value.type "list" == Value.type "dict") = false := by decide
    have hl1 : (s.heap.push (VL w)).IsList l items := ⟨_, hol', rfl, nl, rfl⟩
    unfold Builtin.«set.__init__» noKeywords Builtin.Frozenset.updateFrom
    generalize hPI : pyIter = PI; wp_walk; subst hPI
    refine wpAny_pyIter_list hl1 (wpAny_bind (wpAny_runValue ?_))
    have lS : l < s.heap.objs.size := Heap.lt_size hol
    have nI : l ≠ (s.heap.push (VL w)).objs.size := by rw [Heap.size_push]; exact Nat.ne_of_lt (Nat.lt_succ_of_lt lS)
    have nS : s.heap.objs.size ∉ [(s.heap.push (VL w)).objs.size, l] := by
     rw [Heap.size_push]; simp only [List.mem_cons, List.not_mem_nil, or_false, not_or]; exact ⟨Nat.ne_of_lt (Nat.lt_succ_self _), Nat.ne_of_gt lS⟩
    refine Mj (P := P) (w := w) ((Walks.list (show A.in1.in1.in1.handled = none by simp [hh]) _ l nI items).toS) s.heap.objs.size nS (fun i => ns.getD i 0) (fun i v hv => IntsAre.int_at hi i v (by rw [Array.getElem?_toList]; exact hv)) hb (items.size - 0) 0 _ [] (by omega) (Nat.zero_le _)
     ⟨⟨_, Heap.get?_push_size _ rfl, rfl, rfl⟩, (hl1.push _)⟩ (OC (Heap.get?_push_of_some _ hS)) (Nat.le_refl _) (fun z => ⟨fun q => (nomatch q), fun ⟨j, hj, _⟩ => by omega⟩) ?_
    intro s' ks mv hS' hm hlk
    obtain ⟨h', g', d', tk', os'⟩ := s'
    have eg : g' = s.gens := mv.gens
    have ed : d' = s.drawn := mv.drawn
    have eo : os' = s.os := mv.os
    subst eg ed eo
    refine wpAny_pure (wpAny_pure ⟨rfl, h', tk', ks, rfl, hS', fun z => (hm z).trans (getD_mem ln z), by rw [ln]; exact hlk, fun b o hb e => ?_⟩)
    have b2 : b ≠ (s.heap.push (VL w)).objs.size := by rw [Heap.size_push]; exact Nat.ne_of_lt (Nat.lt_succ_of_lt hb)
    exact mv.heap b o (by simp only [List.mem_cons, List.not_mem_nil, or_false, not_or]; exact ⟨Nat.ne_of_lt hb, b2⟩) (Heap.get?_push_of_some _ (Heap.get?_push_of_some _ e))
   ·cases r₂ with
    | error e => exact hr₂
    | ok fl₂ =>
     cases fl₂ with
     | ret r =>
      obtain ⟨rfl, h', tk, ks, rfl, q1, q2, q3, q4⟩ := hr₂
      repeat (any_goals (first | assumption | wp_step))
      exact h _ _ ks q1 q2 q3 q4
     | _ => exact hr₂.elim
  | _ => exact hr.elim
end
end DL
namespace DL
open PySem PySem.Spec PyProof.Rows L2 PySem.W
section
variable {P : Program} {w : World} {A : Around} {E : Value → Shared → Prop} {s : Shared}
theorem HL {src : Source} {n : Nat} {Q : Nat → Shared → Prop} (hn : n ≠ 0) (h : ∀ r, r < n → Q r { s with drawn := s.drawn.bump src }) : wpAny (model P w) A (choose src n) Q E s := fun _ _ _ => ⟨hn, h _ (Nat.mod_lt _ (Nat.pos_of_ne_zero hn))⟩
theorem Xa {α : Type} : ∀ (l : List α) (r : Nat) (h : r < l.length), (l[r] :: l.eraseIdx r).Perm l
 | a :: l, 0, _ => .refl _
 | a :: l, r + 1, h => by
  rw [List.getElem_cons_succ, List.eraseIdx_cons_succ]
  exact (List.Perm.swap a _ _).trans ((Xa l r (Nat.lt_of_succ_lt_succ h)).cons a)
theorem HW {α : Type} : ∀ (n : Nat) (xs : List α) (s : Shared) (Q : List α → Shared → Prop), xs.length = n → (∀ ys d, ys.Perm xs → Q ys { s with drawn := d }) → wpAny (model P w) A (drawOrder n xs) Q E s
 | 0, xs, s, Q, hl, h => by
  cases xs with
  | nil => exact wpAny_pure (h [] s.drawn (.refl _))
  | cons a l => cases hl
 | n + 1, [], s, Q, hl, h => by cases hl
 | n + 1, a :: l, s, Q, hl, h => by
  unfold drawOrder
  refine wpAny_bind (HL (by simp) fun r hr => ?_)
  rw [List.getElem?_eq_getElem hr]; dsimp only
  refine wpAny_bind (HW n _ _ _ (by rw [List.length_eraseIdx, if_pos hr]; simpa using hl) fun ys d hp => wpAny_pure ?_)
  exact h _ d ((hp.cons _).trans (Xa _ _ hr))
theorem E5 {α : Type} (next : Nat → Nat) : ∀ (fuel k : Nat) (left : List α) (out : Array α), left.length = fuel → (pickOrder.go next fuel k left out).toList.Perm (out.toList ++ left)
 | 0, k, left, out, hl => by
  rw [List.length_eq_zero_iff.mp hl, List.append_nil]
  unfold pickOrder.go
  exact .refl _
 | fuel + 1, k, left, out, hl => by
  have hr : next k % left.length < left.length := Nat.mod_lt _ (by omega)
  unfold pickOrder.go
  rw [List.getElem?_eq_getElem hr]; dsimp only
  refine (E5 next fuel (k + 1) _ _ (by rw [List.length_eraseIdx, if_pos hr, hl]; rfl)).trans ?_
  rw [Array.toList_push, List.append_assoc]
  exact (List.Perm.refl _).append (Xa _ _ hr)
theorem YZ {α : Type} (next : Nat → Nat) (xs : Array α) : (pickOrder next xs).toList.Perm xs.toList := by
 unfold pickOrder
 have := E5 next xs.size 0 xs.toList #[] (by rw [Array.length_toList])
 simpa using this
noncomputable abbrev VT (h : Heap) (it : Addr) (first : Value) (i : Nat) (S : Addr) (n ep : Nat) : Prop :=
 h.get? it = some { cls := .type "set_iterator", dict := none, data := .fields #[first, rawInt i, .ref S, rawInt n, rawInt ep], slots := #[] }
noncomputable def Md (w : World) (h : Heap) (first : Value) (i : Nat) (S : Addr) (es : Ep) (ep : Nat) (t : SetTable) (L : List Value) : Prop :=
 (w.params.followText "set-order" = true ∧ first = rawInt 0 ∧ L = (pickOrder (w.params.setOrder S ep) es).toList.map (·.2)) ∨
 (w.params.followText "set-order" = false ∧ ∃ (T : Addr) (ps : List Nat), first = .ref T ∧ IsTup h T (ps.map fun p : Nat => rawInt (p : Int)).toArray ∧ ps.Perm (List.range es.size) ∧ L = ps.map fun p => (es.getD p (0, .none)).2) ∨
 (w.params.followText "set-order" = false ∧ first = rawInt (if i = 0 then 0 else t.place.getD (i - 1) 0 + 1) ∧ Rsg t.place.toList ∧ t.led = true ∧ (t.plain = true ∨ es.size ≤ 1) ∧ L = es.toList.map (·.2))
theorem ZbN {it S : Addr} {first x : Value} {i n ep : Nat} {z : Int} {Q : PySem.Fin → Shared → Prop} (hit : VT s.heap it first i S n ep) (hQ : ∀ h', VT h' it (rawInt z) (i + 1) S n ep → Heap.SameBut it s.heap h' → Q (.done (.ret x)) { s with heap := h' }) :
  wpAny (model P w) A (do setField (.ref it) 0 (rawInt z); setField (.ref it) 1 (rawInt ((i : Int) + 1)); ret x) Q E s := by
 refine wpAny_bind (wpAny_setField_rec hit (by simp) fun h1 g1 s1 => ?_)
 refine wpAny_bind (wpAny_setField_rec (s := { s with heap := h1 }) g1 (by simp) fun h2 g2 s2 => wpAny_pure ?_)
 exact hQ h2 g2 (s1.trans s2)
theorem Zd6 {it S : Addr} {first x : Value} {i n ep : Nat} {Q : PySem.Fin → Shared → Prop} (hit : VT s.heap it first i S n ep) (hQ : ∀ h', VT h' it first (i + 1) S n ep → Heap.SameBut it s.heap h' → Q (.done (.ret x)) { s with heap := h' }) :
  wpAny (model P w) A (do setField (.ref it) 1 (rawInt ((i : Int) + 1)); ret x) Q E s :=
 wpAny_bind (wpAny_setField_rec hit (by simp) fun h1 g1 s1 => wpAny_pure (hQ h1 g1 s1))
theorem Fc {S : Addr} {ep : Nat} {o : Obj} {es : Ep} {t : SetTable} {Q : Ep → Shared → Prop} (ho : s.heap.get? S = some o) (hd : o.data = .set es ep t) (hf : t.fits es.size = true) (bt : w.params.followText "set-order" = true) (h : Q (pickOrder (w.params.setOrder S ep) es) s) : wpAny (model P w) A (setWalk S) Q E s := by
 unfold setWalk setsByText
 refine wpAny_bind (wpAny_setState_of ho hd hf ?_); dsimp only
 refine wpAny_bind (wpAny_bind (wpAny_askSetting (wpAny_pure ?_)))
 rw [if_pos (show (model P w).w.params.followText "set-order" = true from bt)]
 exact wpAny_bind (wpAny_askSetting (wpAny_pure h))
theorem below_at {xs : Array Nat} (h : Rsg xs.toList) {i : Nat} (hi : i < xs.size) : SetTable.below xs (if i = 0 then 0 else xs.getD (i - 1) 0 + 1) = i := by
 have sp := Kg h (if i = 0 then 0 else xs.getD (i - 1) 0 + 1)
 generalize SetTable.below xs (if i = 0 then 0 else xs.getD (i - 1) 0 + 1) = r at sp
 obtain ⟨s1, s2, s3⟩ := sp
 rw [Array.length_toList] at s3
 have at' : ∀ k, k < xs.size → xs.toList[k]? = some (xs.getD k 0) := fun k hk => by rw [Array.getElem?_toList, Array.getElem?_eq_getElem hk]; simp [Array.getD, hk]
 by_cases e : i = 0
 ·subst e
  rw [if_pos rfl] at s1
  by_cases hr : r = 0
  ·exact hr
  ·exact absurd (s1 0 _ (by omega) (at' 0 (by omega))) (Nat.not_lt_zero _)
 ·rw [if_neg e] at s1 s2
  have h1 : ¬ r ≤ i - 1 := fun z => by
   have := s2 _ _ z (at' (i - 1) (by omega))
   omega
  have h2 : ¬ i < r := fun z => by
   have a := s1 i _ z (at' i hi)
   have b := h.lt (at' (i - 1) (by omega)) (at' i hi) (by omega)
   omega
  omega
theorem Si {it S : Addr} {first : Value} {i n ep : Nat} {o : Obj} {es : Ep} {t : SetTable} {L : List Value} {Q : Fin → Shared → Prop} (hit : VT s.heap it first i S n ep) (ho : s.heap.get? S = some o) (hd : o.data = .set es ep t) (hf : t.fits es.size = true) (hn : es.size = n)
  (md : Md w s.heap first i S es ep t L) (hi : i < n)
  (hQ : ∀ h' v first', L[i]? = some v → VT h' it first' (i + 1) S n ep → Heap.SameBut it s.heap h' → (∀ h'', (∀ b o, s.heap.get? b = some o → b ≠ it → h''.get? b = some o) → Md w h'' first' (i + 1) S es ep t L) → (∀ T', first' = .ref T' → first = .ref T') → Q (.done (.ret v)) { s with heap := h' }) :
  wpAny (model P w) A (Builtin.«set_iterator.__next__» ⟨[.ref it], []⟩) Q E s := by
 subst hn
 show wpAny _ _ (fieldsOf (.ref it) >>= _) _ _ _
 refine wpAny_bind (wpAny_fieldsOf hit rfl ?_)
 refine wpAny_bind (wpAny_setEntries_of ho hd hf ?_)
 rw [if_neg (by simp)]; dsimp only
 rcases md with ⟨bt, rfl, rfl⟩ | ⟨bt, T, ps, rfl, hT, hp, rfl⟩ | ⟨bt, rfl, up, led, pl, rfl⟩
 ·show wpAny _ _ (setNext S 0 ((i : Int)).toNat ((ep : Int)).toNat >>= _) _ _ _
  rw [Int.toNat_natCast, Int.toNat_natCast]
  unfold setNext setsByText
  refine wpAny_bind (wpAny_bind (wpAny_setState_of ho hd hf ?_)); dsimp only
  refine wpAny_bind (wpAny_bind (wpAny_askSetting (wpAny_pure ?_)))
  rw [if_pos (show (model P w).w.params.followText "set-order" = true from bt), if_neg (by simp)]
  refine wpAny_bind (Fc ho hd hf bt (wpAny_pure ?_))
  have lp : (pickOrder (w.params.setOrder S ep) es).size = es.size := by rw [← Array.length_toList, (YZ _ es).length_eq, Array.length_toList]
  rw [Array.getElem?_eq_getElem (by rw [lp]; exact hi)]
  refine ZbN (z := ((0 : Nat) : Int)) hit fun h' g sb => hQ h' _ _ ?_ g sb (fun h'' _ => .inl ⟨bt, rfl, rfl⟩) fun T' e => nomatch e
  rw [List.getElem?_map, Array.getElem?_toList, Array.getElem?_eq_getElem (by rw [lp]; exact hi)]
  rfl
 ·show wpAny _ _ (seqItems? (.ref T) >>= _) _ _ _
  obtain ⟨oT, gT, cT, nT, dT⟩ := hT
  have lp : ps.length = es.size := by rw [hp.length_eq, List.length_range]
  refine wpAny_bind (wpAny_seqItems gT dT ?_); dsimp only
  have ip : i < ps.length := by omega
  have pe : ps[i] < es.size := List.mem_range.mp (hp.mem_iff.mp (List.getElem_mem ip))
  rw [Int.toNat_natCast, List.getElem?_toArray, List.getElem?_map, List.getElem?_eq_getElem ip]
  show wpAny _ _ (setNextDrawn S ((ps[i] : Int)).toNat ((ep : Int)).toNat >>= _) _ _ _
  rw [Int.toNat_natCast, Int.toNat_natCast]; unfold setNextDrawn
  refine wpAny_bind (wpAny_bind (wpAny_setState_of ho hd hf ?_)); dsimp only
  rw [if_neg (by simp), Array.getElem?_eq_getElem pe]; dsimp only
  refine wpAny_pure (Zd6 hit fun h' g sb => hQ h' _ _ ?_ g sb (fun h'' kk => .inr (.inl ⟨bt, T, ps, rfl, ⟨oT, kk T oT gT ?_, cT, nT, dT⟩, hp, rfl⟩)) fun T' e => e)
  ·rw [List.getElem?_map, List.getElem?_eq_getElem ip]
   simp [Array.getD, pe]
  ·intro e
   rw [e, hit] at gT
   cases gT
   exact absurd (Value.type.inj cT) (by decide)
 ·have sz : t.place.size = es.size := by
   unfold SetTable.fits at hf
   rw [Bool.and_eq_true] at hf
   exact eq_of_beq hf.1
  show wpAny _ _ (setNext S ((if i = 0 then (0 : Int) else (t.place.getD (i - 1) 0 : Int) + 1)).toNat ((i : Int)).toNat ((ep : Int)).toNat >>= _) _ _ _
  have ez : (if i = 0 then (0 : Int) else (t.place.getD (i - 1) 0 : Int) + 1).toNat = (if i = 0 then 0 else t.place.getD (i - 1) 0 + 1) := by split <;> omega
  rw [ez, Int.toNat_natCast, Int.toNat_natCast]
  unfold setNext setsByText
  refine wpAny_bind (wpAny_bind (wpAny_setState_of ho hd hf ?_)); dsimp only
  refine wpAny_bind (wpAny_bind (wpAny_askSetting (wpAny_pure ?_)))
  rw [if_neg (show ¬ (model P w).w.params.followText "set-order" = true by rw [show (model P w).w.params.followText "set-order" = false from bt]; exact Bool.false_ne_true)]
  have nd : (!t.plain && decide (es.size > 1)) = false := by
   rcases pl with pl | pl
   ·rw [pl]; rfl
   ·rw [decide_eq_false (by omega), Bool.and_false]
  show wpAny _ _ (if (!t.plain && decide (es.size > 1)) = true then _ else _) _ _ _
  rw [nd, if_neg Bool.false_ne_true]
  show wpAny _ _ ((if (!t.led && !es.isEmpty) = true then unsupported "set:maker-not-led" else pure ()) >>= _) _ _ _
  rw [led]; simp only [Bool.not_true, Bool.false_and, Bool.false_eq_true, if_false]
  refine wpAny_bind (wpAny_pure (wpAny_pure ?_))
  rw [below_at up (by rw [sz]; exact hi), Array.getElem?_eq_getElem hi, Array.getElem?_eq_getElem (by rw [sz]; exact hi)]; dsimp only
  refine ZbN (z := ((t.place[i]'(by rw [sz]; exact hi) + 1 : Nat) : Int)) hit fun h' g sb => hQ h' _ _ ?_ g sb (fun h'' _ => .inr (.inr ⟨bt, ?_, up, led, pl, rfl⟩)) fun T' e => nomatch e
  ·rw [List.getElem?_map, Array.getElem?_toList, Array.getElem?_eq_getElem hi]
   rfl
  ·rw [if_neg (Nat.succ_ne_zero i)]
   simp [Array.getD, sz, hi]
end
end DL
namespace DL
open PySem PySem.Spec PyProof.Rows L2 PySem.W
theorem JU : Slot "set_iterator" "__next__" "set_iterator.__next__" := .of (owner := "set_iterator") (n := "__next__") (by rw [typeLookup_type, builtinLookup_eq_fast]; kernel_rfl) (by decide +kernel) (by decide +kernel) (by decide +kernel) (by first | exact .inl (by decide +kernel) | exact .inr (by decide +kernel)) (by rw [isSubtype_type]; kernel_rfl)
theorem UR : entryFor table "set_iterator.__next__" = some Builtin.«set_iterator.__next__» := entryFor_of_tree (by kernel_rfl)
theorem C4 (a : Value) : argsOk "set_iterator.__next__" ⟨[a], []⟩ := by unfold argsOk; kernel_rfl
theorem UN : Slot "set_iterator" "__iter__" "set_iterator.__iter__" := .of (owner := "set_iterator") (n := "__iter__") (by rw [typeLookup_type, builtinLookup_eq_fast]; kernel_rfl) (by decide +kernel) (by decide +kernel) (by decide +kernel) (by first | exact .inl (by decide +kernel) | exact .inr (by decide +kernel)) (by rw [isSubtype_type]; kernel_rfl)
theorem D6 : entryFor table "set_iterator.__iter__" = some Builtin.«dict_keyiterator.__iter__» :=
 entryFor_alias (id' := "dict_keyiterator.__iter__") (by kernel_rfl) (by first | rfl | decide +kernel | (unfold String.splitOn; simp +decide [String.splitOnAux])) (by decide +kernel) (by kernel_rfl)
theorem Et (a : Value) : argsOk "set_iterator.__iter__" ⟨[a], []⟩ := by unfold argsOk; kernel_rfl
theorem Bl : entryFor table "set.__iter__" = some Builtin.«frozenset.__iter__» :=
 entryFor_alias (id' := "frozenset.__iter__") (by kernel_rfl) (by first | rfl | decide +kernel | (unfold String.splitOn; simp +decide [String.splitOnAux])) (by decide +kernel) (by kernel_rfl)
section
variable {P : Program} {w : World} {A : Around} {E : Value → Shared → Prop} {s : Shared}
theorem Fw {α : Type} {Q : α → Shared → Prop} (hh : A.handled = none) (hE : ∀ h' e, (∀ b o, s.heap.get? b = some o → h'.get? b = some o) → (∃ o, h'.get? e = some o ∧ o.cls = .type "StopIteration") → E (.ref e) { s with heap := h' }) :
  wpAny (model P w) A (newExc (.type "StopIteration") [] >>= fun e => (raiseNew e : Sem α)) Q E s := by
 refine wpAny_bind ?_
 simp only [newExc, newTuple]
 refine wpAny_bind (wpAny_newObj_type ?_ (by size_fits))
 refine wpAny_bind (m := firstArgMember _ _) (wpAny_of_eq (a := Value.none) (by first | rfl | (simp only [firstArgMember]; rfl)) ?_)
 refine wpAny_newObj_type ?_ (by size_fits)
 simp only [raiseNew]
 refine wpAny_bind (wpAny_handled ?_)
 rw [hh]
 refine wpAny_bind (wpAny_pure (wpAny_throw ?_))
 exact hE _ _ (fun b o q => Heap.get?_push_of_some _ (Heap.get?_push_of_some _ q)) ⟨_, Heap.get?_push_size _ rfl, rfl⟩
theorem Zb2 {it S : Addr} {first : Value} {n ep : Nat} {o : Obj} {es : Ep} {t : SetTable} {L : List Value} {Q : PySem.Fin → Shared → Prop} (hh : A.handled = none) (hit : VT s.heap it first n S n ep) (ho : s.heap.get? S = some o) (hd : o.data = .set es ep t) (hf : t.fits es.size = true) (hn : es.size = n)
  (md : Md w s.heap first n S es ep t L) (hE : ∀ h' e, (∀ b o, b ≠ it → s.heap.get? b = some o → h'.get? b = some o) → (∃ o, h'.get? e = some o ∧ o.cls = .type "StopIteration") → E (.ref e) { s with heap := h' }) :
  wpAny (model P w) A (Builtin.«set_iterator.__next__» ⟨[.ref it], []⟩) Q E s := by
 subst hn
 have fin : wpAny (model P w) A (do setField (.ref it) 2 .none; raiseNew (← newExc (.type "StopIteration") []) : Sem PySem.Fin) Q E s :=
  wpAny_bind (wpAny_setField_rec hit (by simp) fun h1 g1 s1 => Fw (s := { s with heap := h1 }) hh fun h' e k x => hE h' e (fun b o hb q => k b o ((s1.2 b hb).trans q)) x)
 show wpAny _ _ (fieldsOf (.ref it) >>= _) _ _ _
 refine wpAny_bind (wpAny_fieldsOf hit rfl (wpAny_bind (wpAny_setEntries_of ho hd hf ?_)))
 rw [if_neg (by simp)]; dsimp only
 rcases md with ⟨bt, rfl, rfl⟩ | ⟨bt, T, ps, rfl, hT, hp, rfl⟩ | ⟨bt, rfl, up, led, pl, rfl⟩
 ·show wpAny _ _ (setNext S 0 ((es.size : Int)).toNat ((ep : Int)).toNat >>= _) _ _ _
  rw [Int.toNat_natCast, Int.toNat_natCast]; unfold setNext setsByText
  refine wpAny_bind (wpAny_bind (wpAny_setState_of ho hd hf (wpAny_bind (wpAny_bind (wpAny_askSetting (wpAny_pure ?_))))))
  rw [if_pos (show (model P w).w.params.followText "set-order" = true from bt), if_neg (by simp)]
  refine wpAny_bind (Fc ho hd hf bt (wpAny_pure ?_))
  have lp : (pickOrder (w.params.setOrder S ep) es).size = es.size := by rw [← Array.length_toList, (YZ _ es).length_eq, Array.length_toList]
  rw [Array.getElem?_eq_none (by rw [lp]; exact Nat.le_refl _)]
  exact fin
 ·show wpAny _ _ (seqItems? (.ref T) >>= _) _ _ _
  obtain ⟨oT, gT, cT, nT, dT⟩ := hT
  have lp : ps.length = es.size := by rw [hp.length_eq, List.length_range]
  refine wpAny_bind (wpAny_seqItems gT dT ?_); dsimp only
  rw [Int.toNat_natCast, List.getElem?_toArray, List.getElem?_map, List.getElem?_eq_none (by omega)]; dsimp only [Option.map_none]
  refine wpAny_bind (wpAny_setField_rec hit (by simp) fun h0 g0 s0 => ?_)
  exact wpAny_bind (wpAny_setField_rec (s := { s with heap := h0 }) g0 (by simp) fun h1 g1 s1 => Fw (s := { s with heap := h1 }) hh fun h' e k x => hE h' e (fun b o hb q => k b o ((s1.2 b hb).trans ((s0.2 b hb).trans q))) x)
 ·have sz : t.place.size = es.size := by
   unfold SetTable.fits at hf
   rw [Bool.and_eq_true] at hf
   exact eq_of_beq hf.1
  show wpAny _ _ (setNext S ((if es.size = 0 then (0 : Int) else (t.place.getD (es.size - 1) 0 : Int) + 1)).toNat ((es.size : Int)).toNat ((ep : Int)).toNat >>= _) _ _ _
  rw [Int.toNat_natCast, Int.toNat_natCast]; unfold setNext setsByText
  refine wpAny_bind (wpAny_bind (wpAny_setState_of ho hd hf (wpAny_bind (wpAny_bind (wpAny_askSetting (wpAny_pure ?_))))))
  rw [if_neg (show ¬ (model P w).w.params.followText "set-order" = true by rw [show (model P w).w.params.followText "set-order" = false from bt]; exact Bool.false_ne_true)]
  have nd : (!t.plain && decide (es.size > 1)) = false := by
   rcases pl with pl | pl
   ·rw [pl]; rfl
   ·rw [decide_eq_false (by omega), Bool.and_false]
  show wpAny _ _ (if (!t.plain && decide (es.size > 1)) = true then _ else _) _ _ _
  rw [nd, if_neg Bool.false_ne_true]
  show wpAny _ _ ((if (!t.led && !es.isEmpty) = true then unsupported "set:maker-not-led" else pure ()) >>= _) _ _ _
  rw [led]; simp only [Bool.not_true, Bool.false_and, Bool.false_eq_true, if_false]
  refine wpAny_bind (wpAny_pure (wpAny_pure ?_))
  have bl : SetTable.below t.place ((if es.size = 0 then (0 : Int) else (t.place.getD (es.size - 1) 0 : Int) + 1)).toNat = es.size := by
   obtain ⟨s1, s2, s3⟩ := Kg up ((if es.size = 0 then (0 : Int) else (t.place.getD (es.size - 1) 0 : Int) + 1)).toNat
   rw [Array.length_toList, sz] at s3
   by_cases e : es.size = 0
   ·omega
   ·rw [if_neg e] at s1 s2 s3 ⊢
    by_cases hr : SetTable.below t.place ((t.place.getD (es.size - 1) 0 : Int) + 1).toNat ≤ es.size - 1
    ·have := s2 _ _ hr (show t.place.toList[es.size - 1]? = some (t.place.getD (es.size - 1) 0) by rw [Array.getElem?_toList, Array.getElem?_eq_getElem (by omega)]; simp [Array.getD, sz]; omega)
     omega
    ·omega
  rw [bl, Array.getElem?_eq_none (Nat.le_refl _)]
  exact fin
noncomputable def TX (w : World) (it S T : Addr) (es : Ep) (ep : Nat) (t : SetTable) (L : List Value) (i : Nat) (h : Heap) : Prop :=
 ∃ first o, VT h it first i S es.size ep ∧ h.get? S = some o ∧ o.data = .set es ep t ∧ t.fits es.size = true ∧ Md w h first i S es ep t L ∧ ∀ T', first = .ref T' → T' = T
theorem Md.keep {h h' : Heap} {first : Value} {i : Nat} {S : Addr} {es : Ep} {ep : Nat} {t : SetTable} {L : List Value} (md : Md w h first i S es ep t L) (k : ∀ T, first = .ref T → ∀ o, h.get? T = some o → h'.get? T = some o) : Md w h' first i S es ep t L := by
 rcases md with md | ⟨bt, T, ps, e, ⟨o, g, r⟩, r'⟩ | md
 ·exact .inl md
 ·exact .inr (.inl ⟨bt, T, ps, e, ⟨o, k T e o g, r⟩, r'⟩)
 ·exact .inr (.inr md)
theorem Hk {es : Ep} {ep : Nat} {t : SetTable} {L : List Value} (hh : A.handled = none) (it S T : Addr) (hS : S ≠ it) (hT : T ≠ it) : Walks P w A it [it, S, T] [it] es.size (fun i v => L[i]? = some v) (TX w it S T es ep t L) where
 sub := fun b hb => by simp at hb; simp [hb]
 frame := fun i h h' st hk => by
  obtain ⟨first, o, g1, g2, d, f, md, hf⟩ := st
  exact ⟨first, o, hk it (by simp) _ g1, hk S (by simp) _ g2, d, f, md.keep fun T' e o q => hk T' (by rw [hf T' e]; simp) o q, hf⟩
 item := fun i s Q E hi st hQ => by
  obtain ⟨first, o, g1, g2, d, f, md, hf⟩ := st
  have hTy : s.TypeIs (.ref it) "set_iterator" := ⟨_, g1, rfl⟩
  unfold pyNext
  refine wpAny_bind (wpAny_attempt (wpAny_callSpecial?_slot (name := Str.ofString "__next__") hTy JU (wpAny_call_entry JU hTy UR (Si g1 g2 d f rfl md hi fun h' v first' hv g' sb mk fr => ⟨v, rfl, wpAny_pure ?_⟩) (C4 _))))
  exact hQ v h' s.toks hv ⟨first', o, g', (sb.2 S hS).trans g2, d, f, mk h' fun b o q hb => (sb.2 b hb).trans q, fun T' e => hf T' (fr T' e)⟩ fun b o hb q => (sb.2 b fun e => hb (by simp [e])).trans q
 done := fun s Q E st hQ => by
  obtain ⟨first, o, g1, g2, d, f, md, hf⟩ := st
  have hTy : s.TypeIs (.ref it) "set_iterator" := ⟨_, g1, rfl⟩
  unfold pyNext
  refine wpAny_bind (wpAny_attempt (wpAny_callSpecial?_slot (name := Str.ofString "__next__") hTy JU (wpAny_call_entry JU hTy UR (Zb2 (by first | exact hh | simp [hh]) g1 g2 d f rfl md fun h' e k x => ?_) (C4 _))))
  obtain ⟨oe, ge, ce⟩ := x
  refine wpAny_bind (wpAny_isInstance (T := "StopIteration") (b := true) ⟨oe, ge, ce⟩ isSubtype_stop (wpAny_pure ?_))
  exact hQ h' s.toks fun b o hb q => k b o (fun e => hb (by simp [e])) q
 self := fun i s Q E st hQ => by
  obtain ⟨first, o, g1, _⟩ := st
  have hTy : s.TypeIs (.ref it) "set_iterator" := ⟨_, g1, rfl⟩
  refine wpAny_pyIter_slot hTy UN (wpAny_call_entry UN hTy D6 ?_ (Et _))
  exact wpAny_pure ⟨_, rfl, "set_iterator", _, hTy, JU.lookup, hQ⟩
theorem RZ {S : Addr} {ks : List Int} {Q : Value → Shared → Prop} (hS : SI P w s.heap S ks)
  (hQ : ∀ it T es ep t L h' d, TX w it S T es ep t L 0 h' → S ≠ it → T ≠ it → s.heap.objs.size ≤ it → (T = S ∨ s.heap.objs.size ≤ T) → (L.map Fp).Perm ks → (∀ v ∈ L, ∃ t, v = .int (Fp v) t) → es.size = ks.length → (∀ b o, s.heap.get? b = some o → h'.get? b = some o) → Q (.ref it) { s with heap := h', drawn := d }) :
  wpAny (model P w) A (pyIter (.ref S)) Q E s := by
 obtain ⟨o, es, t, g, so, rfl⟩ := hS
 obtain ⟨ep, hd⟩ := so.dt
 have hTy : s.TypeIs (.ref S) "set" := ⟨o, g, so.ex.1⟩
 have all : ∀ v ∈ es.toList.map (·.2), ∃ t, v = .int (Fp v) t := fun v hv => by
  obtain ⟨e, he, rfl⟩ := List.mem_map.mp hv
  exact CO so.el he
 have len : es.size = (KS es).length := by unfold KS; rw [List.length_map, Array.length_toList]
 have lt : S < s.heap.objs.size := Heap.lt_size g
 refine wpAny_pyIter_slot hTy PySem.F.slot_set_iter (wpAny_call_entry PySem.F.slot_set_iter hTy Bl ?_ (PySem.F.args_set_iter_1 _))
 show wpAny _ _ (Builtin.Frozenset.sizeOf S >>= _) _ _ _
 unfold Builtin.Frozenset.sizeOf
 refine wpAny_bind (wpAny_bind (wpAny_setEntries_of g hd so.ft (wpAny_pure ?_)))
 unfold setDrawn setsByText
 refine wpAny_bind (wpAny_bind (wpAny_setState_of g hd so.ft ?_)); dsimp only
 refine wpAny_bind (wpAny_bind (wpAny_askSetting (wpAny_pure (wpAny_pure ?_))))
 have fin : ∀ (first : Value) (s₁ : Shared), s₁.heap.get? S = some o → wpAny (model P w) A.in1 (do
    let e ← setEpoch S
    let it ← newFields "set_iterator" [first, rawInt 0, Value.ref S, rawInt (es.size : Int), rawInt (e : Int)]
    ret it) (fun fin s' => ∃ v, fin = PySem.Fin.done (Flow.ret v) ∧ v = .ref s₁.heap.objs.size ∧ s' = { s₁ with heap := s₁.heap.push { cls := .type "set_iterator", dict := none, data := .fields #[first, rawInt 0, .ref S, rawInt es.size, rawInt ep], slots := #[] } }) E s₁ := fun first s₁ g₁ => by
  refine wpAny_bind (wpAny_setEpoch_of g₁ hd so.ft ?_)
  unfold newFields
  refine wpAny_bind (wpAny_newObj_type ?_ (by size_fits))
  exact wpAny_pure ⟨_, rfl, rfl, rfl⟩
 have nx : ∀ (s' : Shared) (it : Addr) (first : Value), s'.heap.get? it = some { cls := .type "set_iterator", dict := none, data := .fields #[first, rawInt 0, .ref S, rawInt es.size, rawInt ep], slots := #[] } → s'.TypeIs (.ref it) "set_iterator" := fun _ _ _ q => ⟨_, q, rfl⟩
 show wpAny _ _ (if (!w.params.followText "set-order" && (!t.plain && decide (es.size > 1))) = true then _ else _) _ _ _
 cases bt : w.params.followText "set-order" with
 | true =>
  simp only [Bool.not_true, Bool.false_and, Bool.false_eq_true, if_false]
  refine wpAny_bind (wpAny_pure (wpAny_mono (fin (rawInt 0) s g) (fun r s' ⟨v, e1, e2, e3⟩ => ?_) fun _ _ q => q))
  subst e1 e2 e3
  have gi : (s.heap.push { cls := .type "set_iterator", dict := none, data := .fields #[rawInt 0, rawInt 0, .ref S, rawInt es.size, rawInt ep], slots := #[] }).get? s.heap.objs.size = some _ := Heap.get?_push_size _ rfl
  refine ⟨_, rfl, "set_iterator", _, nx _ _ _ gi, JU.lookup, hQ _ S es ep t _ _ s.drawn ⟨_, o, gi, Heap.get?_push_of_some _ g, hd, so.ft, .inl ⟨bt, rfl, rfl⟩, fun T' e => nomatch e⟩ (Nat.ne_of_lt lt) (Nat.ne_of_lt lt) (Nat.le_refl _) (.inl rfl) ?_ ?_ len fun b o q => Heap.get?_push_of_some _ q⟩
  ·rw [List.map_map]
   exact (YZ _ es).map _
  ·intro v hv
   exact all v (((YZ _ es).map _).mem_iff.mp hv)
 | false =>
  cases dr : (!t.plain && decide (es.size > 1)) with
  | false =>
   simp only [Bool.not_false, Bool.true_and, Bool.false_eq_true, if_false]
   refine wpAny_bind (wpAny_pure (wpAny_mono (fin (rawInt 0) s g) (fun r s' ⟨v, e1, e2, e3⟩ => ?_) fun _ _ q => q))
   subst e1 e2 e3
   have gi : (s.heap.push { cls := .type "set_iterator", dict := none, data := .fields #[rawInt 0, rawInt 0, .ref S, rawInt es.size, rawInt ep], slots := #[] }).get? s.heap.objs.size = some _ := Heap.get?_push_size _ rfl
   have pl : t.plain = true ∨ es.size ≤ 1 := by
    cases hp : t.plain with
    | true => exact .inl rfl
    | false =>
     rw [hp] at dr
     have := of_decide_eq_false (show decide (es.size > 1) = false from dr)
     exact .inr (by omega)
   have up : Rsg t.place.toList := by
    rcases pl with pl | pl
    ·exact so.ok.up pl
    ·have sz : t.place.toList.length ≤ 1 := by
      have hf := so.ft
      unfold SetTable.fits at hf
      rw [Bool.and_eq_true] at hf
      rw [Array.length_toList, eq_of_beq hf.1]
      exact pl
     match t.place.toList, sz with
     | [], _ => exact List.Pairwise.nil
     | [a], _ => exact List.pairwise_singleton _ _
   refine ⟨_, rfl, "set_iterator", _, nx _ _ _ gi, JU.lookup, hQ _ S es ep t _ _ s.drawn ⟨_, o, gi, Heap.get?_push_of_some _ g, hd, so.ft, .inr (.inr ⟨bt, rfl, up, by rw [so.ok.led, bt]; rfl, pl, rfl⟩), fun T' e => nomatch e⟩ (Nat.ne_of_lt lt) (Nat.ne_of_lt lt) (Nat.le_refl _) (.inl rfl) ?_ all len fun b o q => Heap.get?_push_of_some _ q⟩
   rw [List.map_map]
   exact .refl _
  | true =>
   simp only [Bool.not_false, Bool.true_and, if_true]
   refine wpAny_bind (HW _ _ _ _ List.length_range fun ps d hp => ?_)
   have lp : ps.length = es.size := by rw [hp.length_eq, List.length_range]
   refine wpAny_bind (wpAny_newTuple ?_ (by rw [List.length_map, lp]; exact fits_of_scanBound so.bd))
   refine wpAny_mono (fin (.ref s.heap.objs.size) _ (Heap.get?_push_of_some _ g)) (fun r s' ⟨v, e1, e2, e3⟩ => ?_) fun _ _ q => q
   subst e1 e2 e3
   have sz : (s.heap.push { cls := .type "tuple", data := .seq (ps.map fun p : Nat => rawInt (p : Int)).toArray }).objs.size = s.heap.objs.size + 1 := Heap.size_push ..
   have gT : (s.heap.push { cls := .type "tuple", data := .seq (ps.map fun p : Nat => rawInt (p : Int)).toArray }).get? s.heap.objs.size = some _ := Heap.get?_push_size _ rfl
   have gi : ((s.heap.push { cls := .type "tuple", data := .seq (ps.map fun p : Nat => rawInt (p : Int)).toArray }).push { cls := .type "set_iterator", dict := none, data := .fields #[.ref s.heap.objs.size, rawInt 0, .ref S, rawInt es.size, rawInt ep], slots := #[] }).get? (s.heap.push { cls := .type "tuple", data := .seq (ps.map fun p : Nat => rawInt (p : Int)).toArray }).objs.size = some _ := Heap.get?_push_size _ rfl
   have pm : (ps.map fun p => (es.getD p (0, Value.none)).2).Perm (es.toList.map (·.2)) := by
    refine (hp.map _).trans (.of_eq ?_)
    refine List.ext_getElem (by simp) fun i h1 h2 => ?_
    have hi : i < es.size := by simpa using h1
    simp [Array.getD, hi]
   refine ⟨_, rfl, "set_iterator", _, nx _ _ _ gi, JU.lookup, hQ _ s.heap.objs.size es ep t _ _ d ⟨_, o, gi, Heap.get?_push_of_some _ (Heap.get?_push_of_some _ g), hd, so.ft, .inr (.inl ⟨bt, s.heap.objs.size, ps, rfl, ⟨_, Heap.get?_push_of_some _ gT, rfl, _, rfl⟩, hp, rfl⟩), fun T' e => by cases e; rfl⟩ ?_ ?_ ?_ (.inr (Nat.le_refl _)) ?_ ?_ len fun b o q => Heap.get?_push_of_some _ (Heap.get?_push_of_some _ q)⟩
   ·intro e
    rw [sz] at e
    exact absurd e (Nat.ne_of_lt (Nat.lt_succ_of_lt lt))
   ·intro e
    rw [sz] at e
    exact absurd e (Nat.ne_of_lt (Nat.lt_succ_self _))
   ·rw [sz]
    exact Nat.le_succ _
   ·have := pm.map Fp
    rw [List.map_map (f := fun x : Int × Value => x.2)] at this
    exact this
   ·intro v hv
    exact all v (pm.mem_iff.mp hv)
end
end DL
namespace DL
open PySem PySem.Spec PyProof.Rows L2 PySem.W
theorem SS : Slot "set" "__len__" "set.__len__" := .of (owner := "set") (n := "__len__") (by rw [typeLookup_type, builtinLookup_eq_fast]; kernel_rfl) (by decide +kernel) (by decide +kernel) (by decide +kernel) (by first | exact .inl (by decide +kernel) | exact .inr (by decide +kernel)) (by rw [isSubtype_type]; kernel_rfl)
theorem Fj : ∀ L : List Value, (∀ v ∈ L, ∃ t, v = .int (Fp v) t) → IntsAre L (L.map Fp)
 | [], _ => .nil
 | v :: L, h => by
  obtain ⟨t, e⟩ := h v List.mem_cons_self
  have := Fj L fun x hx => h x (List.mem_cons_of_mem _ hx)
  rw [List.map_cons, e]
  exact .cons _ t this
section
variable {P : Program} {w : World} {A : Around} {E : Value → Shared → Prop} {s : Shared}
theorem G5 {S : Addr} {ks : List Int} {Q : List Value → Shared → Prop} (hh : A.handled = none) (hS : SI P w s.heap S ks)
  (hQ : ∀ (vs : List Value) (s' : Shared), IntsAre vs (vs.map Fp) → (vs.map Fp).Perm ks → s'.gens = s.gens → s'.os = s.os → s.toks ≤ s'.toks → (∀ b o, s.heap.get? b = some o → s'.heap.get? b = some o) → Q vs s') :
  wpAny (model P w) A (collect (.ref S)) Q E s := by
 have hz := hS.size
 obtain ⟨o, es0, t0, g, so, e0⟩ := id hS
 have lt : S < s.heap.objs.size := Heap.lt_size g
 unfold collect
 refine wpAny_bind (wpAny_runValue (codeAny_builtin PySem.F.entry_proto_collect ?_)); rw [Around.under_plainId PySem.F.plain_proto_collect _]
 show wpAny _ A.in1 (newList [] >>= fun l => again (.builtin "list.__iadd__" ⟨[l, .ref S], []⟩)) _ _ s
 refine wpAny_bind (wpAny_newObj_type (wpAny_pure ⟨plainId_quiet PySem.F.plain_list_iadd _, codeAny_builtin PySem.F.entry_list_iadd ?_⟩)); rw [Around.under_plainId PySem.F.plain_list_iadd _]
 show wpAny _ A.in1 (Builtin.List.listExtendWith (.ref s.heap.objs.size) (.ref S) (.ref s.heap.objs.size)) _ _ _
 have hS1 : SI P w (s.heap.push { cls := .type "list", data := .seq ([] : List Value).toArray }) S ks := hS.same fun o q => Heap.get?_push_of_some _ q
 have hTy : Shared.TypeIs { s with heap := s.heap.push { cls := .type "list", data := .seq ([] : List Value).toArray } } (.ref S) "set" := ⟨o, Heap.get?_push_of_some _ g, so.ex.1⟩
 unfold Builtin.List.listExtendWith
 refine wpAny_bind (wpAny_typeOf hTy ?_)
 have h1 : Builtin.List.listSameRef (.ref s.heap.objs.size) (.ref S) = false := by simp [Builtin.List.listSameRef]; exact fun e => absurd e (Nat.ne_of_gt lt)
 simp only [h1, show (Value.type "set" == Value.type "list") = false by decide, show (Value.type "set" == Value.type "tuple") = false by decide, Bool.or_false, Bool.false_eq_true, if_false]
 refine wpAny_bind (RZ hS1 fun it T es ep t L h2 d st nS nT lit lT pL hL len k2 => ?_)
 have hTy2 : Shared.TypeIs { s with heap := h2, drawn := d } (.ref S) "set" := ⟨o, k2 S o (Heap.get?_push_of_some _ g), so.ex.1⟩
 refine wpAny_bind (wpAny_holding ?_)
 unfold Builtin.List.listLengthHint
 refine wpAny_bind (wpAny_specialOf hTy2 SS.lookup ?_)
 (generalize hid : ("set.__len__" : String) = id0; (fail_if_success (clear hid id0)); wp_delta; rw [show splitId id0 = some ("set", "__len__") from by subst hid; decide +kernel]; subst hid)
 refine wpAny_bind (wpAny_isInstance (b := true) hTy2 sub_set_self ?_)
 rw [if_neg (by decide)]; dsimp only
 rw [if_pos (by decide +kernel)]
 refine wpAny_bind (wpAny_typeOf hTy2 (wpAny_pure ?_))
 rw [if_pos (by decide +kernel)]
 have gN : h2.get? s.heap.objs.size = some { cls := .type "list", data := .seq ([] : List Value).toArray } := k2 _ _ (Heap.get?_push_size _ rfl)
 have szp : (s.heap.push { cls := .type "list", data := .seq ([] : List Value).toArray }).objs.size = s.heap.objs.size + 1 := size_push' _ _
 have nN : s.heap.objs.size ∉ [it, S, T] := fun hm => by
  rw [show (Shared.heap { s with heap := s.heap.push { cls := .type "list", data := .seq ([] : List Value).toArray } }).objs.size = s.heap.objs.size + 1 from szp] at lit lT
  simp at hm
  rcases hm with e | e | e
  ·omega
  ·exact absurd e (Nat.ne_of_gt lt)
  ·rcases lT with q | q
   ·exact absurd (e.trans q) (Nat.ne_of_gt lt)
   ·omega
 have W := (Hk (P := P) (w := w) (A := A.in1) (es := es) (ep := ep) (t := t) (L := L) hh it S T nS nT)
 have g2 := Heap.get?_update_self (Obj.mapSeq (·.push Value.none)) gN rfl
 have g3 := Heap.get?_update_self (Obj.mapSeq (·.pop)) g2 rfl
 have oth : ∀ b o, b ≠ s.heap.objs.size → h2.get? b = some o → ((h2.update s.heap.objs.size (Obj.mapSeq (·.push Value.none))).update s.heap.objs.size (Obj.mapSeq (·.pop))).get? b = some o :=
  fun b o hb e => (Heap.get?_update_other _ _ (Ne.symm hb)).trans ((Heap.get?_update_other _ _ (Ne.symm hb)).trans e)
 refine wpAny_bind (wpAny_rule (wpAny_bind ?_))
 show wpAny _ A.in1 (updateSeq s.heap.objs.size (·.push .none) >>= fun _ => updateSeq s.heap.objs.size (·.pop)) _ _ _
 refine wpAny_bind (wpAny_updateSeq gN rfl (wpAny_updateSeq g2 rfl ?_))
 have lL : L.length = es.size := by rw [len, ← pL.length_eq, List.length_map]
 refine wpAny_pure ⟨plainId_quiet PySem.F.plain_extend_loop _, codeAny_extend_loopS W.toS (by rw [len]; exact Nat.le_trans (Nat.le_of_lt hz) (by decide)) _ nN _ es.size 0 _ _ _ rfl (Nat.zero_le _) (W.frame 0 h2 _ st fun b hb o e => oth b o (fun q => nN (q ▸ hb)) e) g3 (ItemsOf.nil _) fun s' acc c hm hS' hacc => ?_⟩
 have eL : acc.toList = L := by
  refine List.ext_getElem? fun j => ?_
  by_cases hj : j < acc.size
  ·rw [Array.getElem?_toList, Array.getElem?_eq_getElem hj]
   exact (hacc.2 j _ (Array.getElem?_eq_getElem hj)).symm
  ·rw [List.getElem?_eq_none (by rw [Array.length_toList]; omega), List.getElem?_eq_none (by rw [lL, ← hacc.1]; omega)]
 show wpAny _ A (load s.heap.objs.size >>= _) _ _ s'
 refine wpAny_bind (wpAny_load hS' (wpAny_pure ?_))
 rw [eL]
 refine hQ L s' (Fj L hL) pL hm.gens hm.os hm.toks fun b o q => ?_
 have bl : b < s.heap.objs.size := Heap.lt_size q
 refine hm.heap b o (fun hb => ?_) (oth b o (Nat.ne_of_lt bl) (k2 b o (Heap.get?_push_of_some _ q)))
 rw [show (Shared.heap { s with heap := s.heap.push { cls := .type "list", data := .seq ([] : List Value).toArray } }).objs.size = s.heap.objs.size + 1 from szp] at lit
 rcases List.mem_cons.mp hb with e | e
 ·exact absurd e (Nat.ne_of_lt bl)
 ·rw [List.mem_singleton.mp e] at bl; exact absurd (Nat.lt_of_lt_of_le bl (Nat.le_of_succ_le lit)) (Nat.lt_irrefl _)
end
theorem SI.nodup {P : Program} {w : World} {h : Heap} {a : Addr} {ks : List Int} (q : SI P w h a ks) : ks.Nodup := by
 obtain ⟨o, es, t, _, so, rfl⟩ := q
 exact so.nd
theorem NH {h : Heap} {vs : List Value} {out : Array Value} {b : Addr} {o : Obj} (q : h.get? b = some o) : (sortedHeap (h.push (seqObj "list" vs.toArray 0)) h.objs.size vs out).get? b = some o := by
 have bl : b < h.objs.size := Heap.lt_size q
 unfold sortedHeap
 exact (Heap.get?_update_other _ _ (Nat.ne_of_gt bl)).trans (Heap.get?_push_of_some _ (Heap.get?_push_of_some _ ((Heap.get?_update_other _ _ (Nat.ne_of_gt bl)).trans (Heap.get?_push_of_some _ q))))
theorem RP (h : Heap) (vs : List Value) (out : Array Value) : ∃ e, (sortedHeap (h.push (seqObj "list" vs.toArray 0)) h.objs.size vs out).get? h.objs.size = some (seqObj "list" out e) := by
 unfold sortedHeap
 have h1 : (h.push (seqObj "list" vs.toArray 0)).get? h.objs.size = some (seqObj "list" vs.toArray 0) := Heap.get?_push_size _ rfl
 exact ⟨_, get?_update_seq (Heap.get?_push_of_some _ (Heap.get?_push_of_some _ (get?_update_seq h1 (fun _ => #[])))) (fun _ => out)⟩
section
variable {P : Program} {w : World} {A : Around} {E : Value → Shared → Prop} {s : Shared}
theorem Em {S : Addr} {ks : List Int} {Q : Value → Shared → Prop} (hh : A.handled = none) (hS : SI P w s.heap S ks) (h64 : ks.length < 64)
  (h : ∀ (out : Array Value) (ns : List Int) (s1 : Shared) (h' : Heap) (e : Nat), IntsAre out.toList ns → ns.Perm ks → ns.Pairwise (· ≤ ·) → s1.gens = s.gens → s1.os = s.os → (∀ b o, s.heap.get? b = some o → s1.heap.get? b = some o) → (∀ b o, s1.heap.get? b = some o → h'.get? b = some o) → h'.get? s1.heap.objs.size = some (seqObj "list" out e) → Q (.ref s1.heap.objs.size) { s1 with heap := h' }) :
  wpAny (model P w) A (call (.builtin "sorted") [.ref S]) Q E s := by
 refine Calls.call_function_entry kind_sorted plain_sorted entry_sorted (args_sorted1 _) ?_; unfold Builtin.«sorted»
 refine wpAny_bind (m := checkCount "sorted" 1 1 _) (wpAny_pure (wpAny_bind (G5 (by exact hh) hS fun vs s1 a1 a2 a3 a4 a5 a6 => wpAny_bind (wpAny_newList ?_ (by have := a2.length_eq; rw [List.length_map] at this; rw [sizeLine_eq]; omega)))))
 have hoL : (s1.heap.push (seqObj "list" vs.toArray 0)).get? s1.heap.objs.size = some (seqObj "list" vs.toArray 0) := Heap.get?_push_size _ rfl
 have hl : vs.length < 64 := by have := a2.length_eq; rw [List.length_map] at this; omega
 show wpAny _ _ _ _ _ { s1 with heap := s1.heap.push (seqObj "list" vs.toArray 0) }
 refine wpAny_bind (wpAny_holding (wpAny_call_entry slot_list_sort ⟨_, hoL, rfl⟩ entry_list_sort (list_sort_tree hoL a1 hl fun out ns' b1 b2 b3 => ⟨_, rfl, ?_⟩) (args_list_sort _)))
 obtain ⟨e, he⟩ := RP s1.heap vs out
 exact wpAny_pure ⟨_, rfl, h out ns' s1 _ e b1 (b2.trans a2) b3 a3 a4 a6 (fun b o q => NH q) he⟩
end
section
variable {X : Cx} {e : Expr} {t : TA} {p pos p2 pos2 : Pos}
noncomputable def tSS (X : Cx) (t : TA) : TE := fun σ H Q => t σ H fun xs H1 => ∃ (l : Addr) (ns : List Int), xs = [.ref l] ∧ SqL X.K H1 l (ns.map V.int) ∧ ns.length < 64 ∧ ∀ ks : List Int, ks.Pairwise (· ≤ ·) → ks.Nodup → (∀ z, z ∈ ks ↔ z ∈ ns) → ∀ l, H1 l = none → Q (.ref l) (upd H1 l (.lst (ks.map V.int)))
theorem Gh (hc : X.calm = true) (hg : Gl X "sorted") (hm : X.mg "sorted" = none) (hg2 : Gl X "set") (hm2 : X.mg "set" = none) (ha : PA X [e] t) (he : autoParam (starEach [e] X.env = [(false, eval e X.env)]) zz3._auto_1) :
  PE X (.Call (.Name "sorted" p) [.Call (.Name "set" p2) [e] [] pos2] [] pos) (tSS X t) := by
 intro pins s σ H Q I h
 refine wpAny_Call_Name_kw (Kl I hg hm (u := .builtin "sorted") (by rfl) ?_ (by decide) (by decide))
 refine PyProof.Rows.callWith_builtin1 ?_ (by rfl) (by rfl)
 refine Calls.spliced_cons (wpAny_Call_Name_kw (Kl I hg2 hm2 (u := .type "set") (by rfl) ?_ (by decide) (by decide)))
 refine PyProof.Rows.callWith_type1 (thn (ha pos2 pins s σ H _ I h) fun us s1 ⟨vs, H1, I1, r1, q1⟩ => ?_) he (by rfl)
 obtain ⟨l, ns, rfl, hq, h64, q⟩ := q1
 obtain ⟨u, rfl, rx⟩ := vals1 r1
 cases rx
 obtain ⟨its, rv, pl, hz⟩ := I1.list hq
 have hi : IntsAre its ns := intsAre_of rv
 have hlen : its.length < 64 := by have := rv.length; rw [List.length_map] at this; omega
 refine set_list (I1.ok.hd hc) pl.isList (by simpa using hi) (by simpa using Nat.lt_trans (Nat.succ_lt_succ hlen) (by decide)) fun h' tk ks a1 a2 a3 a4 => ?_
 have k1 : ∀ b o, s1.heap.get? b = some o → h'.get? b = some o := fun b o q => a4 b o (Heap.lt_size q) q
 refine Calls.spliced_nil ?_
 refine Em (s := { s1 with heap := h', toks := tk }) (I1.ok.hd hc) a1 (by omega) fun out ns' s2 h2 e b1 b2 b3 b4 b5 b6 b7 b8 => ?_
 have I2 := I1.kept (t' := tk) k1
 have I3 : Inv X pins σ H1 s2 := I2.ZbE (ch := []) b5 (Un.kept b6) (I2.hok.kept b6) (by rw [b4]; exact I2.bare) (fun _ z => nomatch z)
 have hn : H1 s2.heap.objs.size = none := I3.hok.fresh (Nat.le_refl _)
 refine ⟨.ref s2.heap.objs.size, _, I3.laid (t' := s2.toks) (a := s2.heap.objs.size) (o := .lst (ns'.map V.int)) b7 (Nat.le_refl _) ⟨?_, out.toList, e, Kb b1, b8⟩, rfl, q ns' b3 ?_ (fun z => (b2.mem_iff).trans (a2 z)) _ hn⟩
 ·rw [List.length_map, b2.length_eq, sizeLine_eq]
  omega
 ·exact b2.nodup_iff.mpr (SI.nodup a1)
noncomputable def dSS (t : DTA) : DTE := fun Δ M Φ => t Δ M fun xs M1 => ∃ ns : List Int, VG xs M1 ns ∧ ns.length < 64 ∧ ∀ ks : List Int, ks.Pairwise (· ≤ ·) → ks.Nodup → (∀ z, z ∈ ks ↔ z ∈ ns) → Φ (.dat (.list (ks.map PyData.int))) M1
theorem ZdK (t : DTA) (Δ : DSt) (M : Mp) (Φ : DK) : dSS t Δ M Φ = (t Δ M fun xs M1 => ∃ ns : List Int, VG xs M1 ns ∧ ns.length < 64 ∧ ∀ ks : List Int, ks.Pairwise (· ≤ ·) → ks.Nodup → (∀ z, z ∈ ks ↔ z ∈ ns) → Φ (.dat (.list (ks.map PyData.int))) M1) := propext Iff.rfl
theorem GJ {t : DTA} (hg : Gl X "sorted") (hm : X.mg "sorted" = none) (hg2 : Gl X "set") (hm2 : X.mg "set" = none) (ha : DA X [e] t) (hc : autoParam (X.calm = true) zz3._auto_1) (he : autoParam (starEach [e] X.env = [(false, eval e X.env)]) zz3._auto_1) :
  DE X (.Call (.Name "sorted" p) [.Call (.Name "set" p2) [e] [] pos2] [] pos) (dSS t) := by
 obtain ⟨u, pa, q⟩ := ha
 refine ⟨_, Gh hc hg hm hg2 hm2 pa he, fun σ H Δ M Φ Q r e h k => ?_⟩
 refine q σ H Δ M _ _ r e h fun vs H1 xs M1 r1 st rv hx => ?_
 obtain ⟨ns, hx, h64, q⟩ := hx
 obtain ⟨p, rfl, hs⟩ := hx.sq r1 rv
 exact ⟨p, ns, rfl, hs, h64, fun ks a b c l hl => (k.step st).dat (r1.new hl) (Step.new hl) (Dt.XI r1 hl (Dts.ints ks)) (q ks a b c)⟩
end
end DL
namespace DL
open PySem PySem.Spec PyProof.Rows L2
section
variable {X : Cx}
noncomputable def Zeq (τ : DTE) : DTT := fun Δ M Φ => τ Δ M fun x M1 => onQ x M1 fun ds => Φ (!ds.isEmpty) M1
theorem Zcj (τ : DTE) (Δ : DSt) (M : Mp) (Φ : Bool → Mp → Prop) : Zeq τ Δ M Φ = (τ Δ M fun x M1 => onQ x M1 fun ds => Φ (!ds.isEmpty) M1) := propext Iff.rfl
theorem Ka {K : PySem.W.Frag} {M : Mp} {H : Hp} {vs : List V} {ds : List PyData} (h : Dts K M H vs ds) : (!vs.isEmpty) = !ds.isEmpty := by
 have := Dts.length h
 cases vs <;> cases ds <;> simp at this ⊢
theorem ZaF {e : Expr} {τ : DTE} (h : DE X e τ) (he : autoParam (∀ whole, isTrue e X.env whole = (do let v ← whole; standAt e.pos; holding [v] (truthy v))) zz2._auto_1) : DT X e (Zeq τ) := by
 obtain ⟨t, p, q⟩ := h
 refine ⟨_, Nz p he, fun σ H Δ M Φ Q dr e h k => ?_⟩
 refine q σ H Δ M _ _ dr e h fun v H1 x M1 r1 st rv hx => ?_
 replace hx := Gy hx
 obtain ⟨ds, hx, hq⟩ := hx
 refine ⟨!ds.isEmpty, ?_, k _ _ _ r1 st hq⟩
 rcases hx with rfl | rfl | ⟨l, rfl, hm⟩
 ·obtain ⟨p, xs, rfl, h1, h2⟩ := rv.tup
  exact .inr (.inl ⟨xs, h1.sq, (Ka h2).symm⟩)
 ·obtain ⟨p, xs, rfl, h1, h2⟩ := rv.lst
  exact .inl ⟨xs, h1.sq, (Ka h2).symm⟩
 ·cases (show v = .ref l from rv)
  obtain ⟨vs, g1, g2⟩ := r1.ls l ds hm
  exact .inl ⟨vs, SqL.of g1, (Ka g2).symm⟩
end
end DL
namespace My
open PySem PySem.Spec PyProof.Rows L2 DL
set_option maxHeartbeats 8000000
noncomputable def top (i : Nat) : Stmt := PySem.Challenge.pw_landsentered_k14_shows_spoilt.main.body.getD i (.Pass ⟨0, 0, 0, 0⟩)
noncomputable abbrev JA : Stmt := top 1
noncomputable abbrev QB : Stmt := top 3
noncomputable abbrev Jb : Stmt := top 4
noncomputable abbrev Xn : Stmt := top 5
noncomputable abbrev D5 : Stmt := top 6
noncomputable abbrev Vc : Stmt := top 7
noncomputable abbrev JC : Stmt := top 8
noncomputable abbrev Z7 : Stmt := top 9
noncomputable abbrev DF : Stmt := top 10
noncomputable abbrev Yc : Stmt := top 11
noncomputable abbrev Xt : Stmt := top 12
noncomputable abbrev QA : Stmt := top 13
noncomputable abbrev V4 : Stmt := top 14
noncomputable abbrev JN : Stmt := top 15
noncomputable abbrev Q8 : Stmt := top 16
noncomputable abbrev JO : Stmt := top 18
noncomputable abbrev Jy : Stmt := top 19
noncomputable abbrev Qw : Stmt := top 20
noncomputable abbrev Qz : Stmt := top 21
noncomputable abbrev Ql : Stmt := top 22
noncomputable abbrev Wm : Stmt := top 23
noncomputable abbrev JG : Stmt := top 25
noncomputable abbrev Xg : Stmt := top 27
noncomputable abbrev JF : Stmt := top 28
noncomputable abbrev QR : Stmt := top 29
noncomputable abbrev J2 : Stmt := top 30
noncomputable abbrev Qu : Stmt := top 31
noncomputable abbrev Xy : Stmt := top 33
noncomputable abbrev QC : Stmt := top 34
noncomputable abbrev J8 : Stmt := top 35
noncomputable abbrev Qh : Stmt := top 36
noncomputable abbrev DQ : Stmt := top 38
noncomputable abbrev Ws : Stmt := top 39
noncomputable abbrev Kx : Stmt := top 40
noncomputable abbrev El : Stmt := top 41
noncomputable abbrev Xd : Stmt := top 42
noncomputable abbrev JJ : Stmt := top 43
noncomputable abbrev WE : Stmt := top 44
noncomputable abbrev XA : Stmt := top 45
noncomputable abbrev Wt : Stmt := top 46
noncomputable abbrev Xu : Stmt := top 47
noncomputable abbrev Vq : Stmt := top 48
noncomputable abbrev Xf : Stmt := top 49
noncomputable abbrev Xm : Stmt := top 50
noncomputable abbrev Xv : Stmt := top 51
noncomputable abbrev QS : Stmt := top 52
noncomputable abbrev Xi : Stmt := top 53
noncomputable abbrev Yr : Stmt := top 54
noncomputable abbrev Q9 : Stmt := top 55
noncomputable abbrev Wu : Stmt := top 56
noncomputable abbrev QM : Stmt := top 57
noncomputable abbrev B3 : Stmt := top 58
theorem BX : Zt ["thing"] ["thing"] (Zf JA) := ⟨rfl, rfl, rfl, by decide +kernel, rfl, by decide +kernel, by decide +kernel⟩
theorem Wf : Zt ["thing"] ["thing"] (Zf QB) := ⟨rfl, rfl, rfl, by decide +kernel, rfl, by decide +kernel, by decide +kernel⟩
theorem Gu : Zt ["box"] ["box"] (Zf Jb) := ⟨rfl, rfl, rfl, by decide +kernel, rfl, by decide +kernel, by decide +kernel⟩
theorem N2 : Zt ["one", "other"] ["one", "other"] (Zf Xn) := ⟨rfl, rfl, rfl, by decide +kernel, rfl, by decide +kernel, by decide +kernel⟩
theorem Zae : Zt ["box", "spot"] ["box", "spot"] (Zf D5) := ⟨rfl, rfl, rfl, by decide +kernel, rfl, by decide +kernel, by decide +kernel⟩
theorem D9 : Zt ["box", "other"] ["box", "other"] (Zf Vc) := ⟨rfl, rfl, rfl, by decide +kernel, rfl, by decide +kernel, by decide +kernel⟩
theorem BM : Zt ["box", "spot"] ["box", "spot"] (Zf JC) := ⟨rfl, rfl, rfl, by decide +kernel, rfl, by decide +kernel, by decide +kernel⟩
theorem XR : Zt ["one", "other"] ["one", "other"] (Zf Z7) := ⟨rfl, rfl, rfl, by decide +kernel, rfl, by decide +kernel, by decide +kernel⟩
theorem TU : Zt ["one", "other", "way"] ["one", "other", "way"] (Zf DF) := ⟨rfl, rfl, rfl, by decide +kernel, rfl, by decide +kernel, by decide +kernel⟩
theorem HY : Zt ["spot", "r"] ["spot", "r"] (Zf Yc) := ⟨rfl, rfl, rfl, by decide +kernel, rfl, by decide +kernel, by decide +kernel⟩
theorem CZ : Zt ["box", "way", "at", "high"] ["box", "way", "at"] (Zf Xt) := ⟨rfl, rfl, rfl, by decide +kernel, rfl, by decide +kernel, by decide +kernel⟩
theorem Yi : Zt ["box", "way", "at", "low"] ["box", "way", "at"] (Zf QA) := ⟨rfl, rfl, rfl, by decide +kernel, rfl, by decide +kernel, by decide +kernel⟩
theorem K5 : Zt ["one", "other", "low", "high"] ["one", "other"] (Zf V4) := ⟨rfl, rfl, rfl, by decide +kernel, rfl, by decide +kernel, by decide +kernel⟩
theorem JD : Zt ["one", "other", "middle", "left", "right", "below", "above"] ["one", "other"] (Zf JN) := ⟨rfl, rfl, rfl, by decide +kernel, rfl, by decide +kernel, by decide +kernel⟩
theorem QP : Zt ["box", "others", "pieces", "other", "rest", "piece"] ["box", "others"] (Zf Q8) := ⟨rfl, rfl, rfl, by decide +kernel, rfl, by decide +kernel, by decide +kernel⟩
theorem Wl : Zt ["shape", "box", "lacking"] ["shape", "box"] (Zf JO) := ⟨rfl, rfl, rfl, by decide +kernel, rfl, by decide +kernel, by decide +kernel⟩
theorem Qy : Zt ["shape", "box", "k", "across", "along", "way", "places", "at", "first"] ["shape", "box"] (Zf Jy) := ⟨rfl, rfl, rfl, by decide +kernel, rfl, by decide +kernel, by decide +kernel⟩
theorem Vp : Zt ["shape", "box", "way", "places", "other"] ["shape", "box", "way"] (Zf Qw) := ⟨rfl, rfl, rfl, by decide +kernel, rfl, by decide +kernel, by decide +kernel⟩
theorem J4 : Zt ["shape", "box", "thing", "first", "second"] ["shape", "box", "thing"] (Zf Qz) := ⟨rfl, rfl, rfl, by decide +kernel, rfl, by decide +kernel, by decide +kernel⟩
theorem Kc : Zt ["shape", "k"] ["shape", "k"] (Zf Ql) := ⟨rfl, rfl, rfl, by decide +kernel, rfl, by decide +kernel, by decide +kernel⟩
theorem RU : Zt ["box", "way", "at"] ["box", "way", "at"] (Zf Wm) := ⟨rfl, rfl, rfl, by decide +kernel, rfl, by decide +kernel, by decide +kernel⟩
theorem DB : Zt ["shape", "spot"] ["shape", "spot"] (Zf JG) := ⟨rfl, rfl, rfl, by decide +kernel, rfl, by decide +kernel, by decide +kernel⟩
theorem CV : Zt ["shape", "spot", "away"] ["shape", "spot"] (Zf Xg) := ⟨rfl, rfl, rfl, by decide +kernel, rfl, by decide +kernel, by decide +kernel⟩
theorem Xz : Zt ["shape", "spot", "pieces", "reach"] ["shape", "spot"] (Zf JF) := ⟨rfl, rfl, rfl, by decide +kernel, rfl, by decide +kernel, by decide +kernel⟩
theorem UB : Zt ["shape", "spot"] ["shape", "spot"] (Zf QR) := ⟨rfl, rfl, rfl, by decide +kernel, rfl, by decide +kernel, by decide +kernel⟩
theorem Ur : Zt ["shape", "low", "high"] ["shape"] (Zf J2) := ⟨rfl, rfl, rfl, by decide +kernel, rfl, by decide +kernel, by decide +kernel⟩
theorem Uu : Zt ["pieces", "spot"] ["pieces", "spot"] (Zf Qu) := ⟨rfl, rfl, rfl, by decide +kernel, rfl, by decide +kernel, by decide +kernel⟩
theorem Ux : Zt ["shape", "spot", "deep", "other"] ["shape", "spot"] (Zf Xy) := ⟨rfl, rfl, rfl, by decide +kernel, rfl, by decide +kernel, by decide +kernel⟩
theorem Wg : Zt ["shape", "spot", "thing"] ["shape", "spot", "thing"] (Zf QC) := ⟨rfl, rfl, rfl, by decide +kernel, rfl, by decide +kernel, by decide +kernel⟩
theorem Dp : Zt ["spot", "d", "other"] ["spot", "d", "other"] (Zf J8) := ⟨rfl, rfl, rfl, by decide +kernel, rfl, by decide +kernel, by decide +kernel⟩
theorem K8 : Zt ["shape", "spot", "d"] ["shape", "spot", "d"] (Zf Qh) := ⟨rfl, rfl, rfl, by decide +kernel, rfl, by decide +kernel, by decide +kernel⟩
theorem EJ : Zt ["_law_script", "_law_k", "_law_cell"] ["_law_script", "_law_k"] (Zf DQ) := ⟨rfl, rfl, rfl, by decide +kernel, rfl, by decide +kernel, by decide +kernel⟩
theorem Ks : Zt ["_law_pen_here", "_law_many", "_law_number", "_law_found"] ["_law_pen_here", "_law_many"] (Zf Ws) := ⟨rfl, rfl, rfl, by decide +kernel, rfl, by decide +kernel, by decide +kernel⟩
theorem Kw : Zt ["_law_pen_here", "_law_low", "_law_high", "_law_thick", "_law_found"] ["_law_pen_here"] (Zf Kx) := ⟨rfl, rfl, rfl, by decide +kernel, rfl, by decide +kernel, by decide +kernel⟩
theorem WC : Zt ["_law_pen_here", "_law_box_here", "_law_begin", "_law_end", "_law_way", "_law_first", "_law_at"] ["_law_pen_here", "_law_box_here"] (Zf El) := ⟨rfl, rfl, rfl, by decide +kernel, rfl, by decide +kernel, by decide +kernel⟩
theorem Yb : Zt ["_law_pen_here", "_law_way", "_law_found", "_law_k", "_law_low", "_law_high"] ["_law_pen_here"] (Zf Xd) := ⟨rfl, rfl, rfl, by decide +kernel, rfl, by decide +kernel, by decide +kernel⟩
theorem Xp : Zt ["_law_pen_here", "_law_times", "_law_begins"] ["_law_pen_here"] (Zf JJ) := ⟨rfl, rfl, rfl, by decide +kernel, rfl, by decide +kernel, by decide +kernel⟩
theorem VR : Zt ["_law_boxes_here", "_law_frame_here", "_law_found", "_law_times", "_law_x", "_law_y", "_law_low", "_law_high", "_law_begin"] ["_law_boxes_here", "_law_frame_here"] (Zf WE) := ⟨rfl, rfl, rfl, by decide +kernel, rfl, by decide +kernel, by decide +kernel⟩
theorem V9 : Zt ["_law_boxes_here", "_law_found", "_law_low", "_law_high", "_law_x", "_law_y"] ["_law_boxes_here"] (Zf XA) := ⟨rfl, rfl, rfl, by decide +kernel, rfl, by decide +kernel, by decide +kernel⟩
theorem W0 : Zt ["_law_pen_here", "_law_frame_here", "_law_found", "_law_way", "_law_cell"] ["_law_pen_here", "_law_frame_here"] (Zf Wt) := ⟨rfl, rfl, rfl, by decide +kernel, rfl, by decide +kernel, by decide +kernel⟩
theorem YU : Zt ["_law_cell", "_law_frame_here", "_law_spot_here", "_law_found", "_law_way", "_law_low"] ["_law_cell", "_law_frame_here", "_law_spot_here"] (Zf Xu) := ⟨rfl, rfl, rfl, by decide +kernel, rfl, by decide +kernel, by decide +kernel⟩
theorem Va : Zt ["_law_cells_here", "_law_frame_here", "_law_spot_here", "_law_here", "_law_inside", "_law_found", "_law_x", "_law_y"] ["_law_cells_here", "_law_frame_here", "_law_spot_here"] (Zf Vq) := ⟨rfl, rfl, rfl, by decide +kernel, rfl, by decide +kernel, by decide +kernel⟩
theorem WN : Zt ["_law_one", "_law_box_here", "_law_low", "_law_high"] ["_law_one", "_law_box_here"] (Zf Xf) := ⟨rfl, rfl, rfl, by decide +kernel, rfl, by decide +kernel, by decide +kernel⟩
theorem WO : Zt ["_law_box_here", "_law_way", "_law_at", "_law_low", "_law_high"] ["_law_box_here", "_law_way", "_law_at"] (Zf Xm) := ⟨rfl, rfl, rfl, by decide +kernel, rfl, by decide +kernel, by decide +kernel⟩
theorem Nh : Zt ["_law_thing"] ["_law_thing"] (Zf Xv) := ⟨rfl, rfl, rfl, by decide +kernel, rfl, by decide +kernel, by decide +kernel⟩
theorem WM : Zt ["_law_shape", "_law_box_here", "_law_paper"] ["_law_shape", "_law_box_here", "_law_paper"] (Zf QS) := ⟨rfl, rfl, rfl, by decide +kernel, rfl, by decide +kernel, by decide +kernel⟩
theorem JW : Zt ["_law_shape", "_law_box_here", "_law_thing", "_law_waiting", "_law_here", "_law_paper", "_law_parts_here", "_law_way", "_law_at"] ["_law_shape", "_law_box_here", "_law_thing"] (Zf Xi) := ⟨rfl, rfl, rfl, by decide +kernel, rfl, by decide +kernel, by decide +kernel⟩
theorem VC : Zt ["_law_shape", "_law_spot_here", "_law_paper", "_law_has_other", "_law_less", "_law_far", "_law_other", "_law_low", "_law_high"] ["_law_shape", "_law_spot_here", "_law_paper"] (Zf Yr) := ⟨rfl, rfl, rfl, by decide +kernel, rfl, by decide +kernel, by decide +kernel⟩
theorem Jh : Zt ["_law_pen_here", "_law_other", "_law_spot_here", "_law_some", "_law_x", "_law_y"] ["_law_pen_here", "_law_other", "_law_spot_here"] (Zf Q9) := ⟨rfl, rfl, rfl, by decide +kernel, rfl, by decide +kernel, by decide +kernel⟩
theorem J1 : Zt ["_law_pen_here", "_law_shape", "_law_spot_here", "_law_paper", "_law_cover", "_law_way", "_law_some", "_law_word", "_law_far", "_law_other"] ["_law_pen_here", "_law_shape", "_law_spot_here", "_law_paper"] (Zf Wu) := ⟨rfl, rfl, rfl, by decide +kernel, rfl, by decide +kernel, by decide +kernel⟩
theorem J0 : Zt ["_law_shape", "_law_cells_here", "_law_frame_here", "_law_spot_here", "_law_paper", "_law_found", "_law_inside", "_law_others_here"] ["_law_shape", "_law_cells_here", "_law_frame_here", "_law_spot_here", "_law_paper"] (Zf QM) := ⟨rfl, rfl, rfl, by decide +kernel, rfl, by decide +kernel, by decide +kernel⟩
theorem Vi : Zt ["_law_script", "_law_k", "_law_pen_here", "_law_boxes_here", "_law_frame_here", "_law_shape", "_law_cells_here", "_law_turn", "_law_spot_here", "_law_paper", "_law_some", "_law_thing"] ["_law_script"] (Zf B3) := ⟨rfl, rfl, rfl, by decide +kernel, rfl, by decide +kernel, by decide +kernel⟩
theorem Ww : bootBuiltins "abs" = some (.builtin "abs") := by decide +kernel
theorem Tt : bootBuiltins "all" = some (.builtin "all") := by decide +kernel
theorem TL : bootBuiltins "any" = some (.builtin "any") := by decide +kernel
theorem KU : bootBuiltins "bool" = some (.type "bool") := by decide +kernel
theorem O1 : bootBuiltins "int" = some (.type "int") := by decide +kernel
theorem ZN : bootBuiltins "isinstance" = some (.builtin "isinstance") := by decide +kernel
theorem Qd : bootBuiltins "len" = some (.builtin "len") := by decide +kernel
theorem FC : bootBuiltins "list" = some (.type "list") := by decide +kernel
theorem VH : bootBuiltins "max" = some (.builtin "max") := by decide +kernel
theorem Vf : bootBuiltins "min" = some (.builtin "min") := by decide +kernel
theorem OS : bootBuiltins "str" = some (.type "str") := by decide +kernel
theorem QY : bootBuiltins "tuple" = some (.type "tuple") := by decide +kernel
set_option genInjectivity false in
structure Tx (K : PySem.W.Frag) (mg : Str → Option Value) where
 JB : Addr
 Jz : FuncData
 ZG : Own K mg "is_whole" JA ["thing"] JB Jz
 VA : Addr
 Vs : FuncData
 Jt : Own K mg "is_any_spot" QB ["thing"] VA Vs
 YA : Addr
 Yo : FuncData
 Vx : Own K mg "has_spots" Jb ["box"] YA Yo
 Bg : Addr
 BN : FuncData
 o_steps : Own K mg "steps" Xn ["one", "other"] Bg BN
 Nq : Addr
 Ob : FuncData
 Wd : Own K mg "has" D5 ["box", "spot"] Nq Ob
 YK : Addr
 Y3 : FuncData
 JM : Own K mg "has_all" Vc ["box", "other"] YK Y3
 Ve : Addr
 Vb : FuncData
 Qj : Own K mg "steps_to" JC ["box", "spot"] Ve Vb
 Z8 : Addr
 Z6 : FuncData
 Zx : Own K mg "steps_between" Z7 ["one", "other"] Z8 Z6
 Rf : Addr
 PX : FuncData
 BL : Own K mg "gap" DF ["one", "other", "way"] Rf PX
 Y6 : Addr
 YE : FuncData
 Jd : Own K mg "square" Yc ["spot", "r"] Y6 YE
 W9 : Addr
 Ud : FuncData
 Yp : Own K mg "up_to" Xt ["box", "way", "at"] W9 Ud
 Jv : Addr
 Jw : FuncData
 Qi : Own K mg "onward_from" QA ["box", "way", "at"] Jv Jw
 XX : Addr
 XY : FuncData
 Vz : Own K mg "common" V4 ["one", "other"] XX XY
 Kn : Addr
 X4 : FuncData
 YW : Own K mg "cut_out" JN ["one", "other"] Kn X4
 Vy : Addr
 Vr : FuncData
 QK : Own K mg "left_over" Q8 ["box", "others"] Vy Vr
 K2 : Addr
 X7 : FuncData
 YX : Own K mg "covered" JO ["shape", "box"] K2 X7
 J9 : Addr
 Vg : FuncData
 Qk : Own K mg "cover_of" Jy ["shape", "box"] J9 Vg
 V1 : Addr
 V2 : FuncData
 Qr : Own K mg "cut_places" Qw ["shape", "box", "way"] V1 V2
 QW : Addr
 Q4 : FuncData
 ZP : Own K mg "holds_cover" Qz ["shape", "box", "thing"] QW Q4
 J5 : Addr
 J3 : FuncData
 Jc : Own K mg "is_number_of" Ql ["shape", "k"] J5 J3
 Le : Addr
 Fn : FuncData
 C0 : Own K mg "cuts" Wm ["box", "way", "at"] Le Fn
 VP : Addr
 VW : FuncData
 Z5 : Own K mg "lies_in" JG ["shape", "spot"] VP VW
 BV : Addr
 B0 : FuncData
 UG : Own K mg "depth" Xg ["shape", "spot"] BV B0
 Kq : Addr
 K3 : FuncData
 Y0 : Own K mg "nearest" JF ["shape", "spot"] Kq K3
 JT : Addr
 JV : FuncData
 Qv : Own K mg "other_side" QR ["shape", "spot"] JT JV
 G4 : Addr
 Bx : FuncData
 UD : Own K mg "frame" J2 ["shape"] G4 Bx
 JX : Addr
 JS : FuncData
 Qs : Own K mg "steps_away" Qu ["pieces", "spot"] JX JS
 Br : Addr
 BE : FuncData
 Yx : Own K mg "shown" Xy ["shape", "spot"] Br BE
 VB : Addr
 VD : FuncData
 Jp : Own K mg "shows_depth" QC ["shape", "spot", "thing"] VB VD
 KW : Addr
 X6 : FuncData
 YJ : Own K mg "is_away" J8 ["spot", "d", "other"] KW X6
 Vu : Addr
 Vt : FuncData
 Js : Own K mg "none_nearer" Qh ["shape", "spot", "d"] Vu Vt
 Ru : Addr
 Rw : FuncData
 Mn : Own K mg "_law_pen" DQ ["_law_script", "_law_k"] Ru Rw
 Y2 : Addr
 YQ : FuncData
 Zp : Own K mg "_law_draw" Ws ["_law_pen_here", "_law_many"] Y2 YQ
 HC : Addr
 Ha : FuncData
 CI : Own K mg "_law_hole" Kx ["_law_pen_here"] HC Ha
 SO : Addr
 Sj : FuncData
 B6 : Own K mg "_law_box" El ["_law_pen_here", "_law_box_here"] SO Sj
 BA : Addr
 Bv : FuncData
 WV : Own K mg "_law_boxes" Xd ["_law_pen_here"] BA Bv
 KQ : Addr
 KH : FuncData
 YO : Own K mg "_law_frame" JJ ["_law_pen_here"] KQ KH
 HU : Addr
 FF : FuncData
 Cz : Own K mg "_law_laid" WE ["_law_boxes_here", "_law_frame_here"] HU FF
 Bz : Addr
 BQ : FuncData
 Ul : Own K mg "_law_cells" XA ["_law_boxes_here"] Bz BQ
 Hs : Addr
 Hq : FuncData
 Kv : Own K mg "_law_spot" Wt ["_law_pen_here", "_law_frame_here"] Hs Hq
 BW : Addr
 Bq : FuncData
 Uj : Own K mg "_law_gap" Xu ["_law_cell", "_law_frame_here", "_law_spot_here"] BW Bq
 W5 : Addr
 UC : FuncData
 XU : Own K mg "_law_others" Vq ["_law_cells_here", "_law_frame_here", "_law_spot_here"] W5 UC
 Ua : Addr
 WH : FuncData
 Yw : Own K mg "_law_has" Xf ["_law_one", "_law_box_here"] Ua WH
 BD : Addr
 Bm : FuncData
 UA : Own K mg "_law_parts" Xm ["_law_box_here", "_law_way", "_law_at"] BD Bm
 Kr : Addr
 K1 : FuncData
 Qg : Own K mg "_law_whole" Xv ["_law_thing"] Kr K1
 VN : Addr
 V3 : FuncData
 JQ : Own K mg "_law_leaf_holds" QS ["_law_shape", "_law_box_here", "_law_paper"] VN V3
 Bh : Addr
 Bb : FuncData
 Ug : Own K mg "_law_holds" Xi ["_law_shape", "_law_box_here", "_law_thing"] Bh Bb
 Bd : Addr
 B9 : FuncData
 WW : Own K mg "_law_right" Yr ["_law_shape", "_law_spot_here", "_law_paper"] Bd B9
 Ys : Addr
 Yj : FuncData
 Vo : Own K mg "_law_bent_spot" Q9 ["_law_pen_here", "_law_other", "_law_spot_here"] Ys Yj
 Lx : Addr
 FT : FuncData
 CH : Own K mg "_law_bent" Wu ["_law_pen_here", "_law_shape", "_law_spot_here", "_law_paper"] Lx FT
 Yy : Addr
 Yu : FuncData
 Vm : Own K mg "_law_looked_at" QM ["_law_shape", "_law_cells_here", "_law_frame_here", "_law_spot_here", "_law_paper"] Yy Yu
 Zbh : Addr
 Zcs : FuncData
 o_law : Own K mg "law" B3 ["_law_script"] Zbh Zcs
 Ec : mg "abs" = none
 Zdt : mg "all" = none
 Zc8 : mg "any" = none
 Gi : mg "bool" = none
 Zag : mg "int" = none
 ZR : mg "isinstance" = none
 Jf : mg "len" = none
 Pe : mg "list" = none
 XQ : mg "max" = none
 Xh : mg "min" = none
 QV : mg "range" = none
 ZdU : mg "set" = none
 Nr : mg "sorted" = none
 Zcy : mg "str" = none
 JI : mg "tuple" = none
local macro_rules | `(tactic| walk_at "hd") => `(tactic| (subst_vars; (try dsimp only); refine DL.Nb fun R hR => ?_))
noncomputable def ab (i : Int) : Int := if i < 0 then -i else i
noncomputable def Z9 (x y x' y' : Int) : Int := max (ab (x - x')) (ab (y - y'))
noncomputable def gp (a b a' b' : Int) : Int := max 0 (max (a' - b) (a - b'))
noncomputable def btw (x y X Y x' y' X' Y' : Int) : Int := max (gp x X x' X') (gp y Y y' Y')
structure B4 where
 x : Int
 y : Int
 X : Int
 Y : Int
noncomputable def bD (b : B4) : PyData := .tuple [.tuple [.int b.x, .int b.y], .tuple [.int b.X, .int b.Y]]
noncomputable def Jk (a b : B4) : Int := btw a.x a.y a.X a.Y b.x b.y b.X b.Y
noncomputable def ZK (p : B4) (u v : Int) : Int := btw p.x p.y p.X p.Y u v u v
noncomputable def hasB (b : B4) (u v : Int) : Bool := decide (b.x ≤ u ∧ u ≤ b.X ∧ b.y ≤ v ∧ v ≤ b.Y)
noncomputable def okB (b : B4) : Bool := decide (b.x ≤ b.X) && decide (b.y ≤ b.Y)
noncomputable def Zch (a b : B4) : B4 := ⟨max a.x b.x, max a.y b.y, min a.X b.X, min a.Y b.Y⟩
noncomputable def Er (a b : B4) : List B4 :=
 let mx := max a.x b.x
 let my := max a.y b.y
 let mX := min a.X b.X
 let mY := min a.Y b.Y
 [⟨a.x, a.y, mx - 1, a.Y⟩, ⟨mX + 1, a.y, a.X, a.Y⟩, ⟨mx, a.y, mX, my - 1⟩, ⟨mx, mY + 1, mX, a.Y⟩]
noncomputable def Wb (a b : B4) : List B4 := if 0 < Jk a b then [a] else (Er a b).filter okB
noncomputable def Jg (a : B4) (bs : List B4) : List B4 := bs.foldl (fun ps b => ps.flatMap fun p => Wb p b) [a]
noncomputable def Qn (u v r : Int) : B4 := ⟨u - r, v - r, u + r, v + r⟩
noncomputable def onX (x : DV) (P : B4 → Prop) : Prop := match x with | .dat (.tuple [.tuple [.int x, .int y], .tuple [.int X, .int Y]]) => P ⟨x, y, X, Y⟩ | _ => False
theorem MK (b : B4) (P : B4 → Prop) : onX (.dat (bD b)) P = P b := propext Iff.rfl
theorem Nd (x y X Y : Int) (P : B4 → Prop) : onX (.dat (.tuple [.tuple [.int x, .int y], .tuple [.int X, .int Y]])) P = P ⟨x, y, X, Y⟩ := propext Iff.rfl
theorem ZY {x : DV} {P : B4 → Prop} (h : onX x P) : ∃ b, x = .dat (bD b) ∧ P b := by
 unfold onX at h
 split at h
 ·exact ⟨⟨_, _, _, _⟩, rfl, h⟩
 ·exact h.elim
theorem Mx (b : B4) (M : Mp) (P : List PyData → Prop) : onQ (.dat (bD b)) M P = P [.tuple [.int b.x, .int b.y], .tuple [.int b.X, .int b.Y]] := propext Iff.rfl
theorem ME (b : B4) (P : List PyData → Prop) : onT (.dat (bD b)) P = P [.tuple [.int b.x, .int b.y], .tuple [.int b.X, .int b.Y]] := propext Iff.rfl
noncomputable def Vj (x : DV) (P : List B4 → Prop) : Prop := ∃ bs, x = .dat (.tuple (bs.map bD)) ∧ P bs
noncomputable def Py (x : DV) (P : List B4 → Prop) : Prop := ∃ bs, x = .dat (.list (bs.map bD)) ∧ P bs
theorem Z0 {x : DV} {P : List B4 → Prop} (h : Vj x P) : ∃ bs, x = .dat (.tuple (bs.map bD)) ∧ P bs := h
theorem Be {x : DV} {P : List B4 → Prop} (h : Py x P) : ∃ bs, x = .dat (.list (bs.map bD)) ∧ P bs := h
theorem Zap {a b : B4} (h : bD a = bD b) : a = b := by
 unfold bD at h
 simp only [PyData.tuple.injEq, List.cons.injEq, PyData.int.injEq, and_true] at h
 obtain ⟨⟨h1, h2⟩, h3, h4⟩ := h
 cases a
 cases b
 simp only at h1 h2 h3 h4
 subst h1 h2 h3 h4
 rfl
theorem Xr : ∀ {as bs : List B4}, as.map bD = bs.map bD → as = bs
 | [], [], _ => rfl
 | [], _ :: _, h => by simp at h
 | _ :: _, [], h => by simp at h
 | a :: as, b :: bs, h => by
  rw [List.map_cons, List.map_cons, List.cons.injEq] at h
  rw [Zap h.1, Xr h.2]
theorem SJ (bs : List B4) (P : List B4 → Prop) : Vj (.dat (.tuple (bs.map bD))) P = P bs := propext ⟨fun ⟨cs, e, h⟩ => by
 rw [DV.dat.injEq, PyData.tuple.injEq] at e
 rw [Xr e]
 exact h, fun h => ⟨bs, rfl, h⟩⟩
theorem RY (bs : List B4) (P : List B4 → Prop) : Py (.dat (.list (bs.map bD))) P = P bs := propext ⟨fun ⟨cs, e, h⟩ => by
 rw [DV.dat.injEq, PyData.list.injEq] at e
 rw [Xr e]
 exact h, fun h => ⟨bs, rfl, h⟩⟩
noncomputable def Shp (bs : List B4) : Prop := 1 ≤ bs.length ∧ bs.length ≤ 6 ∧ ∀ b ∈ bs, okB b = true
noncomputable abbrev anyB (bs : List B4) : Int → Int → Bool := fun x y => bs.any fun b => hasB b x y
noncomputable def Sa : DSp := fun xs M Φ => on1 xs fun x => onX x fun b => Φ (.dat (.bool (okB b))) M
theorem RI (xs : List DV) (M : Mp) (Φ : DK) : Sa xs M Φ = (on1 xs fun x => onX x fun b => Φ (.dat (.bool (okB b))) M) := propext Iff.rfl
noncomputable def RX : DSp := fun xs M Φ => on3 xs fun x y z => onX x fun a => onX y fun b => onI z fun i => (i = 0 ∨ i = 1) ∧ Φ (.dat (.int (if i = 0 then gp a.x a.X b.x b.X else gp a.y a.Y b.y b.Y))) M
theorem SG (xs : List DV) (M : Mp) (Φ : DK) : RX xs M Φ = (on3 xs fun x y z => onX x fun a => onX y fun b => onI z fun i => (i = 0 ∨ i = 1) ∧ Φ (.dat (.int (if i = 0 then gp a.x a.X b.x b.X else gp a.y a.Y b.y b.Y))) M) := propext Iff.rfl
noncomputable def Vh : DSp := fun xs M Φ => on2 xs fun x y => onX x fun a => onX y fun b => Φ (.dat (.int (Jk a b))) M
theorem Bf (xs : List DV) (M : Mp) (Φ : DK) : Vh xs M Φ = (on2 xs fun x y => onX x fun a => onX y fun b => Φ (.dat (.int (Jk a b))) M) := propext Iff.rfl
noncomputable def ZaU : DSp := fun xs M Φ => on2 xs fun x y => onX x fun a => onP y fun u v => Φ (.dat (.int (ZK a u v))) M
theorem ZbY (xs : List DV) (M : Mp) (Φ : DK) : ZaU xs M Φ = (on2 xs fun x y => onX x fun a => onP y fun u v => Φ (.dat (.int (ZK a u v))) M) := propext Iff.rfl
noncomputable def Co : DSp := fun xs M Φ => on2 xs fun x y => onX x fun a => onP y fun u v => Φ (.dat (.bool (hasB a u v))) M
theorem Nt (xs : List DV) (M : Mp) (Φ : DK) : Co xs M Φ = (on2 xs fun x y => onX x fun a => onP y fun u v => Φ (.dat (.bool (hasB a u v))) M) := propext Iff.rfl
noncomputable def Bp : DSp := fun xs M Φ => on2 xs fun x y => onP x fun a b => onP y fun u v => Φ (.dat (.int (Z9 a b u v))) M
theorem Lr (xs : List DV) (M : Mp) (Φ : DK) : Bp xs M Φ = (on2 xs fun x y => onP x fun a b => onP y fun u v => Φ (.dat (.int (Z9 a b u v))) M) := propext Iff.rfl
noncomputable def YY : DSp := fun xs M Φ => on2 xs fun x y => onP x fun u v => onI y fun r => Φ (.dat (bD (Qn u v r))) M
theorem Dz (xs : List DV) (M : Mp) (Φ : DK) : YY xs M Φ = (on2 xs fun x y => onP x fun u v => onI y fun r => Φ (.dat (bD (Qn u v r))) M) := propext Iff.rfl
noncomputable def X0 : DSp := fun xs M Φ => on2 xs fun x y => onX x fun a => onX y fun b => Φ (.dat (bD (Zch a b))) M
theorem Ea (xs : List DV) (M : Mp) (Φ : DK) : X0 xs M Φ = (on2 xs fun x y => onX x fun a => onX y fun b => Φ (.dat (bD (Zch a b))) M) := propext Iff.rfl
noncomputable def P1 : DSp := fun xs M Φ => on2 xs fun x y => onX x fun a => onX y fun b => ∀ p, M p = none → Φ (.own p) (Z3 M p (.lst ((Wb a b).map bD)))
theorem Rk (xs : List DV) (M : Mp) (Φ : DK) : P1 xs M Φ = (on2 xs fun x y => onX x fun a => onX y fun b => ∀ p, M p = none → Φ (.own p) (Z3 M p (.lst ((Wb a b).map bD)))) := propext Iff.rfl
noncomputable def Cu : DSp := fun xs M Φ => on2 xs fun x y => onX x fun a => Vj y fun bs => bs.length ≤ 6 ∧ Φ (.dat (.list ((Jg a bs).map bD))) M
theorem OK (xs : List DV) (M : Mp) (Φ : DK) : Cu xs M Φ = (on2 xs fun x y => onX x fun a => Vj y fun bs => bs.length ≤ 6 ∧ Φ (.dat (.list ((Jg a bs).map bD))) M) := propext Iff.rfl
noncomputable def GL : DSp := fun xs M Φ => on2 xs fun x y => Vj x fun bs => onP y fun u v => bs.length ≤ 6 ∧ Φ (.dat (.bool (anyB bs u v))) M
theorem MH (xs : List DV) (M : Mp) (Φ : DK) : GL xs M Φ = (on2 xs fun x y => Vj x fun bs => onP y fun u v => bs.length ≤ 6 ∧ Φ (.dat (.bool (anyB bs u v))) M) := propext Iff.rfl
theorem Yt {α : Type} {l : List α} {i : Nat} {q : α} (f : α → Bool) (h : l[i]? = some q) : (l.take (i + 1)).filter f = (l.take i).filter f ++ (if f q = true then [q] else []) := by
 rw [List.take_add_one, h, List.filter_append]
 cases e : f q <;> simp [e]
theorem Uw (a b : B4) : (Wb a b).length ≤ 4 := by
 unfold Wb
 split
 ·simp
 ·exact Nat.le_trans (List.length_filter_le _ _) (Nat.le_refl 4)
theorem Ce : ∀ (bs ps : List B4), (bs.foldl (fun ps b => ps.flatMap fun p => Wb p b) ps).length ≤ ps.length * 4 ^ bs.length
 | [], ps => by simp
 | b :: bs, ps => by
  have h1 := X1 (fun p => Wb p b) 4 ps fun p _ => Uw p b
  have h2 := Ce bs (ps.flatMap fun p => Wb p b)
  rw [List.foldl_cons, List.length_cons, Nat.pow_succ]
  refine Nat.le_trans h2 (Nat.le_trans (Nat.mul_le_mul_right _ h1) ?_)
  rw [Nat.mul_assoc, Nat.mul_comm 4]
  exact Nat.le_refl _
theorem Ko (a : B4) (bs : List B4) (h : bs.length ≤ 6) : (Jg a bs).length ≤ 4096 := by
 have h1 := Ce bs [a]
 rw [List.length_singleton, Nat.one_mul] at h1
 have h2 : 4 ^ bs.length ≤ 4 ^ 6 := Nat.pow_le_pow_right (by decide) h
 exact Nat.le_trans h1 (Nat.le_trans h2 (by decide))
theorem Ee {a b : B4} {bs : List B4} {i : Nat} (h : bs[i]? = some b) : Jg a (bs.take (i + 1)) = (Jg a (bs.take i)).flatMap fun p => Wb p b := by
 unfold Jg
 rw [List.take_add_one, h, List.foldl_append]
 rfl
noncomputable def Sub (q p : B4) : Prop := okB q = true ∧ p.x ≤ q.x ∧ q.X ≤ p.X ∧ p.y ≤ q.y ∧ q.Y ≤ p.Y
theorem Sub.trans {a b c : B4} (h : Sub a b) (k : Sub b c) : Sub a c := by
 unfold Sub at *
 exact ⟨h.1, by omega⟩
theorem Lh {a b q : B4} (ha : okB a = true) (h : q ∈ Wb a b) : Sub q a := by
 unfold Wb at h
 split at h
 ·rw [List.mem_singleton.mp h]
  exact ⟨ha, by omega⟩
 ·rename_i h0
  obtain ⟨h1, h2⟩ := List.mem_filter.mp h
  refine ⟨h2, ?_⟩
  unfold Jk btw gp at h0
  unfold okB at ha h2
  simp only [Bool.and_eq_true, decide_eq_true_eq] at ha h2
  unfold Er at h1
  simp only [List.mem_cons, List.not_mem_nil, or_false] at h1
  rcases h1 with rfl | rfl | rfl | rfl
  all_goals (dsimp only at h2 ⊢; omega)
theorem Cq {a : B4} : ∀ (bs ps : List B4), (∀ p ∈ ps, Sub p a) → ∀ q ∈ bs.foldl (fun ps b => ps.flatMap fun p => Wb p b) ps, Sub q a
 | [], ps, h, q, hq => h q hq
 | b :: bs, ps, h, q, hq => by
  rw [List.foldl_cons] at hq
  refine Cq bs _ (fun p hp => ?_) q hq
  obtain ⟨p', hp', hc⟩ := List.mem_flatMap.mp hp
  exact (Lh (h p' hp').1 hc).trans (h p' hp')
theorem Cj {a q : B4} {bs : List B4} (ha : okB a = true) (h : q ∈ Jg a bs) : Sub q a :=
 Cq bs [a] (fun p hp => by rw [List.mem_singleton.mp hp]; exact ⟨ha, by omega⟩) q h
theorem Mg {α : Type} {l : List α} {i : Nat} {q : α} (f : α → Bool) (h : l[i]? = some q) : (l.take (i + 1)).any f = ((l.take i).any f || f q) := by
 rw [List.take_add_one, h, List.any_append]
 simp
section
variable {P : Program} {w : World} {K : PySem.W.Frag} {mg : Str → Option Value} {base : Heap}
theorem LH {a b a' b' : Int} : gp a b a' b' = 0 ↔ a' ≤ b ∧ a ≤ b' := by
 unfold gp
 omega
theorem Za3 (a b a' b' : Int) : 0 ≤ gp a b a' b' := Int.le_max_left _ _
theorem Tf {x y : Int} (hx : 0 ≤ x) (hy : 0 ≤ y) : max x y = 0 ↔ x = 0 ∧ y = 0 := by omega
theorem NL (b : B4) (u v : Int) : decide (ZK b u v = 0) = hasB b u v := by
 unfold hasB ZK btw
 rw [decide_eq_decide, Tf (Za3 _ _ _ _) (Za3 _ _ _ _), LH, LH]
 omega
theorem FX {a n : Int} : ab a ≤ n ↔ -n ≤ a ∧ a ≤ n := by unfold ab; split <;> omega
theorem QU (a : Int) : (0 ≤ a ∧ ab a = a) ∨ (a < 0 ∧ ab a = -a) := by unfold ab; split <;> omega
theorem Zb0 (a : Int) : ab (-a) = ab a := by unfold ab; split <;> split <;> omega
theorem OX (a b : Int) : ab (a - b) = ab (b - a) := by rw [← Zb0, Int.neg_sub]
theorem ZL {a b x y n : Int} : Z9 a b x y ≤ n ↔ (-n ≤ a - x ∧ a - x ≤ n) ∧ (-n ≤ b - y ∧ b - y ≤ n) := by
 unfold Z9
 rw [Int.max_le, FX, FX]
theorem YS (a b x y : Int) : Z9 a b x y = Z9 x y a b := by
 unfold Z9
 rw [OX a x, OX b y]
theorem N7 {a b x y : Int} (h : ¬ (x = a ∧ y = b)) : 1 ≤ Z9 a b x y := by
 have h1 := ZL.mp (Int.le_refl (Z9 a b x y))
 omega
structure IsD (S : Int → Int → Bool) (u v d : Int) : Prop where
 sg : S u v = decide (0 < d)
 ne : d ≠ 0
 ex : ∃ x y, S x y ≠ S u v ∧ Z9 u v x y = ab d
 mn : ∀ x y, S x y ≠ S u v → ab d ≤ Z9 u v x y
section
variable {S S' : Int → Int → Bool} {u v d h : Int}
theorem IsD.pos (h : IsD S u v d) (k : S u v = true) : 0 < d := by have := h.sg; rw [k] at this; exact of_decide_eq_true this.symm
theorem IsD.neg (h : IsD S u v d) (k : S u v = false) : d < 0 := by
 have h1 := h.sg
 rw [k] at h1
 have h2 := of_decide_eq_false h1.symm
 have h3 := h.ne
 omega
theorem IsD.eq (h : IsD S u v d) {e : Int} (k : IsD S u v e) : d = e := by
 obtain ⟨x, y, h1, h2⟩ := h.ex
 obtain ⟨x', y', k1, k2⟩ := k.ex
 have a := h.mn x' y' k1
 have b := k.mn x y h1
 cases c : S u v with
 | true =>
  have c1 := h.pos c
  have c2 := k.pos c
  have i1 := QU d
  have i2 := QU e
  omega
 | false =>
  have c1 := h.neg c
  have c2 := k.neg c
  have i1 := QU d
  have i2 := QU e
  omega
noncomputable def cl (f a : Int) : Int := max (0 - f) (min f a)
theorem CB {f : Int} (hf : 0 ≤ f) (a : Int) : (a < -f ∧ cl f a = -f) ∨ (f < a ∧ cl f a = f) ∨ ((-f ≤ a ∧ a ≤ f) ∧ cl f a = a) := by unfold cl; omega
theorem Zaa {f : Int} (hf : 0 ≤ f) (a : Int) : ab (cl f a) ≤ f := by
 rw [FX]
 have := CB hf a
 omega
theorem Uh {f : Int} (hf : 0 ≤ f) (u x : Int) : ab (u + cl f (x - u) - x) = max 0 (ab (u - x) - f) := by
 have h1 := CB hf (x - u)
 have h2 := QU (u - x)
 have h3 := QU (u + cl f (x - u) - x)
 omega
theorem Lm {f : Int} (hf : 0 ≤ f) (u v x y : Int) : Z9 u v (u + cl f (x - u)) (v + cl f (y - v)) ≤ f := by
 rw [ZL]
 have h1 := FX.mp (Zaa hf (x - u))
 have h2 := FX.mp (Zaa hf (y - v))
 omega
noncomputable def sgn (h : Int) : Int := if h < 0 then -1 else 1
theorem Pf (h : Int) : (0 ≤ h ∧ sgn h = 1) ∨ (h < 0 ∧ sgn h = -1) := by unfold sgn; split <;> omega
theorem IsD.near (k : IsD S u v h) {x y : Int} (c : Z9 u v x y < ab h) : S x y = S u v := by
 by_cases e : S x y = S u v
 ·exact e
 ·have := k.mn x y e
  omega
theorem Bw {S : Int → Int → Bool} {u v x y : Int} (h : S x y ≠ S u v) : 1 ≤ Z9 u v x y := by
 by_cases e : x = u ∧ y = v
 ·rw [e.1, e.2] at h
  exact absurd rfl h
 ·exact N7 e
theorem IsD.other (k : IsD S u v h) {x y : Int} (o : S x y ≠ S u v) (c : Z9 u v x y = ab h) : IsD S x y (0 - sgn h) := by
 have hn := k.ne
 have g2 := QU h
 have f0 : 0 ≤ ab h - 1 := by omega
 have n1 := k.near (x := u + cl (ab h - 1) (x - u)) (y := v + cl (ab h - 1) (y - v)) (by have := Lm f0 u v x y; omega)
 have a0 : ab (0 - sgn h) = 1 := by
  have g3 := QU (0 - sgn h)
  have g4 := Pf h
  omega
 have far : 1 ≤ Z9 x y (u + cl (ab h - 1) (x - u)) (v + cl (ab h - 1) (y - v)) := Bw (S := S) (by rw [n1]; exact fun z => o z.symm)
 have near : Z9 x y (u + cl (ab h - 1) (x - u)) (v + cl (ab h - 1) (y - v)) ≤ 1 := by
  rw [YS]
  unfold Z9 at c ⊢
  rw [Uh f0, Uh f0]
  omega
 refine ⟨?_, by unfold sgn; split <;> decide, ⟨u + cl (ab h - 1) (x - u), v + cl (ab h - 1) (y - v), by rw [n1]; exact fun z => o z.symm, by rw [a0]; omega⟩, fun x' y' q => by rw [a0]; exact Bw q⟩
 cases c : S u v with
 | true =>
  have := k.pos c
  rw [c] at o
  rw [show sgn h = 1 from if_neg (by omega)]
  cases c' : S x y with
  | true => exact absurd c' o
  | false => rfl
 | false =>
  have := k.neg c
  rw [c] at o
  rw [show sgn h = -1 from if_pos this]
  cases c' : S x y with
  | true => rfl
  | false => exact absurd c' o
theorem IsD.more (k : IsD S u v h) (k' : IsD S' u v d) (hS : ∀ x y, S x y = true → S' x y = true) : h ≤ d := by
 cases c : S u v with
 | true =>
  have c1 := k.pos c
  have c' := hS u v c
  have c2 := k'.pos c'
  obtain ⟨x, y, a, b⟩ := k'.ex
  have a' : S x y ≠ S u v := fun z => a (by rw [c', hS x y (by rw [z, c])])
  have := k.mn x y a'
  have i1 := QU h
  have i2 := QU d
  omega
 | false =>
  have c1 := k.neg c
  cases c' : S' u v with
  | true =>
   have := k'.pos c'
   omega
  | false =>
   have c2 := k'.neg c'
   obtain ⟨x, y, a, b⟩ := k.ex
   have a' : S x y = true := by
    cases z : S x y with
    | true => rfl
    | false => rw [c, z] at a; exact absurd rfl a
   have := k'.mn x y (by rw [hS x y a', c']; decide)
   have i1 := QU h
   have i2 := QU d
   omega
theorem IsD.le (k : IsD S u v d) {x y : Int} (q : S x y ≠ S u v) {n : Int} (hn : Z9 u v x y ≤ n) : -n ≤ d ∧ d ≤ n := by
 have := k.mn x y q
 have i1 := QU d
 omega
end
theorem ZV {b : B4} : okB b = true ↔ b.x ≤ b.X ∧ b.y ≤ b.Y := by
 unfold okB
 simp only [Bool.and_eq_true, decide_eq_true_eq]
theorem Zv {b : B4} {u v : Int} : hasB b u v = true ↔ b.x ≤ u ∧ u ≤ b.X ∧ b.y ≤ v ∧ v ≤ b.Y := by
 unfold hasB
 rw [decide_eq_true_eq]
theorem Q3 {p : B4} {u v n : Int} (hn : 0 ≤ n) : ZK p u v ≤ n ↔ (u - p.X ≤ n ∧ p.x - u ≤ n) ∧ (v - p.Y ≤ n ∧ p.y - v ≤ n) := by
 unfold ZK btw gp
 omega
theorem YG (p : B4) (u v : Int) : 0 ≤ ZK p u v := by
 unfold ZK btw gp
 omega
theorem Fx (a b x y : Int) : 0 ≤ Z9 a b x y := by
 have := ZL.mp (Int.le_refl (Z9 a b x y))
 omega
theorem JR {p : B4} {u v x y : Int} (h : hasB p x y = true) : ZK p u v ≤ Z9 u v x y := by
 have h1 := ZL.mp (Int.le_refl (Z9 u v x y))
 have h2 := Zv.mp h
 rw [Q3 (Fx u v x y)]
 omega
theorem B8 {p : B4} (h : okB p = true) (u v : Int) : ∃ x y, hasB p x y = true ∧ Z9 u v x y = ZK p u v := by
 have h1 := ZV.mp h
 have h2 := (Q3 (YG p u v)).mp (Int.le_refl _)
 have h3 : hasB p (max p.x (min p.X u)) (max p.y (min p.Y v)) = true := by
  rw [Zv]
  omega
 refine ⟨_, _, h3, Int.le_antisymm ?_ (JR h3)⟩
 rw [ZL]
 have h4 := YG p u v
 omega
theorem S6 {a b : B4} (ha : okB a = true) (x y : Int) : ((Wb a b).any fun p => hasB p x y) = (hasB a x y && !hasB b x y) := by
 have ok := ZV.mp ha
 rw [Bool.eq_iff_iff, Bool.and_eq_true, Bool.not_eq_true', ← Bool.not_eq_true, Zv, Zv, List.any_eq_true]
 unfold Wb
 split
 ·rename_i h0
  unfold Jk btw gp at h0
  constructor
  ·rintro ⟨p, hp, h⟩
   rw [List.mem_singleton.mp hp, Zv] at h
   omega
  ·intro h
   exact ⟨a, List.mem_singleton.mpr rfl, Zv.mpr (by omega)⟩
 ·rename_i h0
  unfold Jk btw gp at h0
  constructor
  ·rintro ⟨p, hp, h⟩
   have hp := (List.mem_filter.mp hp).1
   rw [Zv] at h
   unfold Er at hp
   simp only [List.mem_cons, List.not_mem_nil, or_false] at hp
   rcases hp with rfl | rfl | rfl | rfl
   all_goals (dsimp only at h; omega)
  ·intro h
   have fin : ∀ p : B4, p ∈ Er a b → (p.x ≤ x ∧ x ≤ p.X ∧ p.y ≤ y ∧ y ≤ p.Y) → ∃ p, p ∈ (Er a b).filter okB ∧ hasB p x y = true := fun p hp hh => ⟨p, List.mem_filter.mpr ⟨hp, ZV.mpr (by omega)⟩, Zv.mpr hh⟩
   by_cases c1 : x < b.x
   ·exact fin ⟨a.x, a.y, max a.x b.x - 1, a.Y⟩ (by simp [Er]) (by dsimp only; omega)
   ·by_cases c2 : b.X < x
    ·exact fin ⟨min a.X b.X + 1, a.y, a.X, a.Y⟩ (by simp [Er]) (by dsimp only; omega)
    ·by_cases c3 : y < b.y
     ·exact fin ⟨max a.x b.x, a.y, min a.X b.X, max a.y b.y - 1⟩ (by simp [Er]) (by dsimp only; omega)
     ·exact fin ⟨max a.x b.x, min a.Y b.Y + 1, min a.X b.X, a.Y⟩ (by simp [Er]) (by dsimp only; omega)
theorem fold_any (x y : Int) : ∀ (bs ps : List B4), (∀ p ∈ ps, okB p = true) → ((bs.foldl (fun ps b => ps.flatMap fun p => Wb p b) ps).any fun p => hasB p x y) = ((ps.any fun p => hasB p x y) && !(bs.any fun b => hasB b x y))
 | [], ps, _ => by simp
 | b :: bs, ps, hp => by
  have go : ∀ qs : List B4, (∀ p ∈ qs, okB p = true) → ((qs.flatMap fun p => Wb p b).any fun p => hasB p x y) = ((qs.any fun p => hasB p x y) && !hasB b x y) := fun qs => by
   induction qs with
   | nil => intro _; simp
   | cons q qs ih =>
    intro hq
    rw [List.flatMap_cons, List.any_append, S6 (hq q List.mem_cons_self), ih fun p h => hq p (List.mem_cons_of_mem _ h), List.any_cons]
    cases hasB q x y <;> cases hasB b x y <;> cases (qs.any fun p => hasB p x y) <;> rfl
  rw [List.foldl_cons, fold_any x y bs _ (fun p h => by
   obtain ⟨q, hq, hc⟩ := List.mem_flatMap.mp h
   exact (Lh (hp q hq) hc).1), go ps hp, List.any_cons]
  cases (ps.any fun p => hasB p x y) <;> cases hasB b x y <;> cases (bs.any fun p => hasB p x y) <;> rfl
theorem Yd {a : B4} {bs : List B4} (ha : okB a = true) (_ : ∀ b ∈ bs, okB b = true) (x y : Int) : ((Jg a bs).any fun p => hasB p x y) = (hasB a x y && !(bs.any fun b => hasB b x y)) := by
 unfold Jg
 rw [fold_any x y bs [a] fun p hp => by rw [List.mem_singleton.mp hp]; exact ha]
 simp
structure Pieces (S : Int → Int → Bool) (u v : Int) (ps : List B4) : Prop where
 ok : ∀ p ∈ ps, okB p = true
 ne : ps ≠ []
 on : ∀ p ∈ ps, ∀ x y, hasB p x y = true → S x y ≠ S u v
 al : ∀ x y, S x y ≠ S u v → ∃ p ∈ ps, ZK p u v ≤ Z9 u v x y
theorem QX {bs : List B4} {x y : Int} (h : anyB bs x y = true) : ∃ b ∈ bs, hasB b x y = true := List.any_eq_true.mp h
theorem GZ {bs : List B4} {b : B4} {x y : Int} (hb : b ∈ bs) (h : hasB b x y = true) : anyB bs x y = true := List.any_eq_true.mpr ⟨b, hb, h⟩
noncomputable def Frames (fr : B4) (bs : List B4) : Prop := ∀ b ∈ bs, fr.x < b.x ∧ b.X < fr.X ∧ fr.y < b.y ∧ b.Y < fr.Y
theorem Ht {bs : List B4} {fr : B4} {u v : Int} (hb : ∀ b ∈ bs, okB b = true) (hf : Frames fr bs) (h : anyB bs u v = true) : Pieces (anyB bs) u v (Jg fr bs) := by
 obtain ⟨b0, m0, h0⟩ := QX h
 have f0 := hf b0 m0
 have i0 := Zv.mp h0
 have hok : okB fr = true := ZV.mpr (by omega)
 have key : ∀ x y, hasB fr x y = true → anyB bs x y = false → ∃ p ∈ Jg fr bs, hasB p x y = true := fun x y a b => by
  have e := Yd hok hb x y
  rw [a, show (bs.any fun b => hasB b x y) = false from b] at e
  exact List.any_eq_true.mp e
 have al : ∀ x y, anyB bs x y ≠ anyB bs u v → ∃ p ∈ Jg fr bs, ZK p u v ≤ Z9 u v x y := fun x y q => by
  have q' : anyB bs x y = false := by
   rw [h] at q
   exact Bool.eq_false_iff.mpr q
  have hc := ZL.mp (Int.le_refl (Z9 u v x y))
  have c1 : hasB fr (max fr.x (min fr.X x)) (max fr.y (min fr.Y y)) = true := by
   rw [Zv]
   omega
  have c2 : anyB bs (max fr.x (min fr.X x)) (max fr.y (min fr.Y y)) = false := by
   by_cases z : fr.x ≤ x ∧ x ≤ fr.X ∧ fr.y ≤ y ∧ y ≤ fr.Y
   ·rw [show max fr.x (min fr.X x) = x by omega, show max fr.y (min fr.Y y) = y by omega]
    exact q'
   ·refine Bool.eq_false_iff.mpr fun t => ?_
    obtain ⟨b, mb, tb⟩ := QX t
    have fb := hf b mb
    have ib := Zv.mp tb
    omega
  obtain ⟨p, mp, hp⟩ := key _ _ c1 c2
  refine ⟨p, mp, Int.le_trans (JR hp) ?_⟩
  rw [ZL]
  omega
 refine ⟨fun p mp => (Cj hok mp).1, fun z => ?_, fun p mp x y hp => ?_, al⟩
 ·obtain ⟨p, mp, _⟩ := al fr.x fr.y (by
   rw [h]
   intro t
   obtain ⟨b, mb, tb⟩ := QX t
   have fb := hf b mb
   have ib := Zv.mp tb
   omega)
  rw [z] at mp
  cases mp
 ·have e := Yd hok hb x y
  rw [List.any_eq_true.mpr ⟨p, mp, hp⟩] at e
  have e' := (Bool.and_eq_true _ _ ▸ e.symm : _ ∧ _).2
  rw [h]
  intro t
  rw [show (bs.any fun b => hasB b x y) = true from t] at e'
  cases e'
theorem DN {bs : List B4} {u v : Int} (hb : ∀ b ∈ bs, okB b = true) (h1 : bs ≠ []) (h : anyB bs u v = false) : Pieces (anyB bs) u v bs := by
 refine ⟨hb, h1, fun p mp x y hp => ?_, fun x y q => ?_⟩
 ·rw [h, GZ mp hp]
  decide
 ·rw [h] at q
  obtain ⟨b, mb, tb⟩ := QX (Bool.of_not_eq_false q)
  exact ⟨b, mb, JR tb⟩
section
variable {S : Int → Int → Bool} {u v m : Int} {ps : List B4}
theorem Pieces.pos (h : Pieces S u v ps) {p : B4} (mp : p ∈ ps) : 1 ≤ ZK p u v := by
 obtain ⟨x, y, a, b⟩ := B8 (h.ok p mp) u v
 rw [← b]
 exact Bw (h.on p mp x y a)
theorem Pieces.depth (h : Pieces S u v ps) (h1 : ∃ p ∈ ps, ZK p u v = m) (h2 : ∀ p ∈ ps, m ≤ ZK p u v) : IsD S u v (if S u v = true then m else -m) := by
 obtain ⟨p, mp, e⟩ := h1
 have hp := h.pos mp
 obtain ⟨x, y, a, b⟩ := B8 (h.ok p mp) u v
 have ea : ab (if S u v = true then m else -m) = m := by
  split
  ·have := QU m
   omega
  ·have := QU (-m)
   omega
 refine ⟨?_, ?_, ⟨x, y, h.on p mp x y a, by rw [ea, b, e]⟩, fun x y q => ?_⟩
 ·cases S u v with
  | true => rw [if_pos rfl]; exact (decide_eq_true (by omega)).symm
  | false => rw [if_neg Bool.false_ne_true]; exact (decide_eq_false (by omega)).symm
 ·split <;> omega
 ·obtain ⟨p', mp', q'⟩ := h.al x y q
  have := h2 p' mp'
  rw [ea]
  omega
theorem Pieces.Zbj (h : Pieces S u v ps) (h2 : ∀ p ∈ ps, m ≤ ZK p u v) {p : B4} (mp : p ∈ ps) (h0 : btw p.x p.y p.X p.Y (u - m) (v - m) (u + m) (v + m) = 0) (hm : 0 ≤ m) :
  S (max p.x (u - m)) (max p.y (v - m)) ≠ S u v ∧ Z9 u v (max p.x (u - m)) (max p.y (v - m)) = m := by
 have ok := ZV.mp (h.ok p mp)
 have h0' : (u - m ≤ p.X ∧ p.x ≤ u + m) ∧ (v - m ≤ p.Y ∧ p.y ≤ v + m) := by
  unfold btw gp at h0
  omega
 have hh : hasB p (max p.x (u - m)) (max p.y (v - m)) = true := by
  rw [Zv]
  omega
 refine ⟨h.on p mp _ _ hh, Int.le_antisymm ?_ (Int.le_trans (h2 p mp) (JR hh))⟩
 rw [ZL]
 omega
end
noncomputable def VJ (f ox oy : Int) (b : B4) : B4 := ⟨b.x * f + ox, b.y * f + oy, b.X * f + f - 1 + ox, b.Y * f + f - 1 + oy⟩
theorem Lf {a x f r : Int} (hf : 0 < f) (h0 : 0 ≤ r) (h1 : r < f) : a * f ≤ x * f + r ↔ a ≤ x := by
 constructor
 ·intro h
  by_cases hx : a ≤ x
  ·exact hx
  ·have := Int.mul_le_mul_of_nonneg_right (show x + 1 ≤ a by omega) (Int.le_of_lt hf)
   rw [Int.add_mul, Int.one_mul] at this
   omega
 ·intro h
  have := Int.mul_le_mul_of_nonneg_right h (Int.le_of_lt hf)
  omega
theorem Cn {a x f r : Int} (hf : 0 < f) (h0 : 0 ≤ r) (h1 : r < f) : x * f + r ≤ a * f + f - 1 ↔ x ≤ a := by
 constructor
 ·intro h
  by_cases hx : x ≤ a
  ·exact hx
  ·have := Int.mul_le_mul_of_nonneg_right (show a + 1 ≤ x by omega) (Int.le_of_lt hf)
   rw [Int.add_mul, Int.one_mul] at this
   omega
 ·intro h
  have := Int.mul_le_mul_of_nonneg_right h (Int.le_of_lt hf)
  omega
theorem ZeM {f ox oy r r' : Int} (hf : 0 < f) (h0 : 0 ≤ r) (h1 : r < f) (h2 : 0 ≤ r') (h3 : r' < f) (b : B4) (u v : Int) : hasB (VJ f ox oy b) (u * f + ox + r) (v * f + oy + r') = hasB b u v := by
 unfold hasB VJ
 dsimp only
 have i1 := Lf (a := b.x) (x := u) hf h0 h1
 have i2 := Cn (a := b.X) (x := u) hf h0 h1
 have i3 := Lf (a := b.y) (x := v) hf h2 h3
 have i4 := Cn (a := b.Y) (x := v) hf h2 h3
 rw [decide_eq_decide, ← i1, ← i2, ← i3, ← i4]
 constructor <;> intro h <;> omega
theorem anyS {f ox oy r r' : Int} (hf : 0 < f) (h0 : 0 ≤ r) (h1 : r < f) (h2 : 0 ≤ r') (h3 : r' < f) (bs : List B4) (u v : Int) :
  ((bs.map (VJ f ox oy)).any fun b => hasB b (u * f + ox + r) (v * f + oy + r')) = bs.any fun b => hasB b u v := by
 rw [List.any_map]
 congr 1
 funext b
 exact ZeM hf h0 h1 h2 h3 b u v
noncomputable def Cel (b : B4) : Prop := okB b = true ∧ (0 ≤ b.x ∧ b.X ≤ 11) ∧ (0 ≤ b.y ∧ b.Y ≤ 11)
noncomputable def Jj (t ox oy i j : Int) : B4 := VJ t ox oy ⟨i, j, i, j⟩
theorem QG {t : Int} (ht : 1 ≤ t) (x o : Int) : ∃ r, x = (x - o) / t * t + o + r ∧ 0 ≤ r ∧ r < t := by
 refine ⟨(x - o) % t, ?_, Int.emod_nonneg _ (by omega), Int.emod_lt_of_pos _ (by omega)⟩
 have := Int.mul_ediv_add_emod (x - o) t
 rw [Int.mul_comm] at this
 omega
theorem Vw {t ox oy : Int} (ht : 1 ≤ t) (bs : List B4) (x y : Int) : anyB (bs.map (VJ t ox oy)) x y = anyB bs ((x - ox) / t) ((y - oy) / t) := by
 obtain ⟨r, e, a1, a2⟩ := QG ht x ox
 obtain ⟨r', e', b1, b2⟩ := QG ht y oy
 have h := anyS (ox := ox) (oy := oy) (by omega) a1 a2 b1 b2 bs ((x - ox) / t) ((y - oy) / t)
 rw [← e, ← e'] at h
 exact h
theorem V6 {t ox oy i j x y : Int} (ht : 1 ≤ t) : hasB (Jj t ox oy i j) x y = true ↔ (x - ox) / t = i ∧ (y - oy) / t = j := by
 obtain ⟨r, e, a1, a2⟩ := QG ht x ox
 obtain ⟨r', e', b1, b2⟩ := QG ht y oy
 have h := ZeM (ox := ox) (oy := oy) (show 0 < t by omega) a1 a2 b1 b2 ⟨i, j, i, j⟩ ((x - ox) / t) ((y - oy) / t)
 rw [← e, ← e'] at h
 unfold Jj
 rw [h, Zv]
 dsimp only
 omega
theorem SQ {t : Int} (ht : 1 ≤ t) (ox oy i j : Int) : okB (Jj t ox oy i j) = true := by
 rw [ZV]
 unfold Jj VJ
 dsimp only
 omega
theorem Yz {bs : List B4} (hb : ∀ b ∈ bs, Cel b) {i j : Int} (h : anyB bs i j = true) : (0 ≤ i ∧ i ≤ 11) ∧ (0 ≤ j ∧ j ≤ 11) := by
 obtain ⟨b, mb, tb⟩ := QX h
 have := (hb b mb).2
 have := Zv.mp tb
 omega
theorem Hv {t o u x n : Int} (ht : 1 ≤ t) (hc : 0 ≤ (u - o) / t ∧ (u - o) / t ≤ 11) (h : -n ≤ u - x ∧ u - x ≤ n) :
  u - (max (-1) (min 12 ((x - o) / t)) * t + t - 1 + o) ≤ n ∧ max (-1) (min 12 ((x - o) / t)) * t + o - u ≤ n := by
 obtain ⟨r, e, a1, a2⟩ := QG ht x o
 obtain ⟨r', e', b1, b2⟩ := QG ht u o
 generalize (x - o) / t = a at *
 generalize (u - o) / t = c at *
 have c1 := Int.mul_le_mul_of_nonneg_right hc.1 (show 0 ≤ t by omega)
 have c2 := Int.mul_le_mul_of_nonneg_right hc.2 (show 0 ≤ t by omega)
 rw [Int.zero_mul] at c1
 by_cases h1 : a < -1
 ·rw [show max (-1) (min 12 a) = -1 by omega, Int.neg_mul, Int.one_mul]
  have := Int.mul_le_mul_of_nonneg_right (show a ≤ -2 by omega) (show 0 ≤ t by omega)
  omega
 ·by_cases h2 : 12 < a
  ·rw [show max (-1) (min 12 a) = 12 by omega]
   have := Int.mul_le_mul_of_nonneg_right (show 13 ≤ a by omega) (show 0 ≤ t by omega)
   omega
  ·rw [show max (-1) (min 12 a) = a by omega]
   omega
theorem XD {bs : List B4} {t ox oy u v : Int} {cs : List (Int × Int)} (ht : 1 ≤ t) (hb : ∀ b ∈ bs, Cel b) (h1 : bs ≠ [])
  (hcs : ∀ i j, (i, j) ∈ cs ↔ ((-1 ≤ i ∧ i ≤ 12) ∧ (-1 ≤ j ∧ j ≤ 12)) ∧ anyB bs i j ≠ anyB bs ((u - ox) / t) ((v - oy) / t)) :
  Pieces (anyB (bs.map (VJ t ox oy))) u v (cs.map fun c => Jj t ox oy c.1 c.2) := by
 refine ⟨fun p mp => ?_, fun z => ?_, fun p mp x y hp => ?_, fun x y q => ?_⟩
 ·obtain ⟨c, _, rfl⟩ := List.mem_map.mp mp
  exact SQ ht _ _ _ _
 ·have z' := List.map_eq_nil_iff.mp z
  have no : ∀ i j, ¬ (((-1 ≤ i ∧ i ≤ 12) ∧ (-1 ≤ j ∧ j ≤ 12)) ∧ anyB bs i j ≠ anyB bs ((u - ox) / t) ((v - oy) / t)) := fun i j k => by
   have := (hcs i j).mpr k
   rw [z'] at this
   cases this
  cases q : anyB bs ((u - ox) / t) ((v - oy) / t) with
  | true =>
   refine no (-1) (-1) ⟨by omega, fun k => ?_⟩
   rw [q] at k
   have := Yz hb k
   omega
  | false =>
   obtain ⟨b, r, rfl⟩ : ∃ b r, bs = b :: r := by
    match bs, h1 with
    | b :: r, _ => exact ⟨b, r, rfl⟩
   have cb := hb b List.mem_cons_self
   have ok := ZV.mp cb.1
   have c2 := cb.2
   refine no b.x b.y ⟨by omega, ?_⟩
   rw [q, GZ List.mem_cons_self (Zv.mpr (by omega))]
   decide
 ·obtain ⟨⟨i, j⟩, mc, rfl⟩ := List.mem_map.mp mp
  obtain ⟨e1, e2⟩ := (V6 ht).mp hp
  have k := ((hcs i j).mp mc).2
  rw [Vw ht, Vw ht, e1, e2]
  exact k
 ·rw [Vw ht, Vw ht] at q
  have hc := ZL.mp (Int.le_refl (Z9 u v x y))
  by_cases hin : (-1 ≤ (x - ox) / t ∧ (x - ox) / t ≤ 12) ∧ (-1 ≤ (y - oy) / t ∧ (y - oy) / t ≤ 12)
  ·exact ⟨_, List.mem_map.mpr ⟨((x - ox) / t, (y - oy) / t), (hcs _ _).mpr ⟨hin, q⟩, rfl⟩, JR ((V6 ht).mpr ⟨rfl, rfl⟩)⟩
  ·have f1 : anyB bs ((x - ox) / t) ((y - oy) / t) = false := Bool.eq_false_iff.mpr fun k => by
    have := Yz hb k
    omega
   have s1 : anyB bs ((u - ox) / t) ((v - oy) / t) = true := by
    rw [f1] at q
    cases z : anyB bs ((u - ox) / t) ((v - oy) / t) with
    | true => rfl
    | false => rw [z] at q; exact absurd rfl q
   have cu := Yz hb s1
   refine ⟨_, List.mem_map.mpr ⟨(max (-1) (min 12 ((x - ox) / t)), max (-1) (min 12 ((y - oy) / t))), (hcs _ _).mpr ⟨by omega, ?_⟩, rfl⟩, ?_⟩
   ·rw [s1]
    intro k
    have := Yz hb k
    omega
   ·rw [Q3 (Fx u v x y)]
    have d1 := Hv (u := u) (x := x) (o := ox) (n := Z9 u v x y) ht cu.1 hc.1
    have d2 := Hv (u := v) (x := y) (o := oy) (n := Z9 u v x y) ht cu.2 hc.2
    exact ⟨d1, d2⟩
structure Wq (S : Int → Int → Bool) (u v m x y : Int) : Prop where
 o : S x y ≠ S u v
 c : Z9 u v x y = m
 l : ∀ x' y', S x' y' ≠ S u v → Z9 u v x' y' = m → ltP (x', y') (x, y) = false
theorem Sw {a b c d : Int} : ltP (a, b) (c, d) = true ↔ a < c ∨ (a = c ∧ b < d) := by
 unfold ltP
 dsimp only
 split
 ·rw [decide_eq_true_eq]; omega
 ·rw [decide_eq_true_eq]; omega
theorem Cs {a b c d : Int} : ltP (a, b) (c, d) = false ↔ c < a ∨ (a = c ∧ d ≤ b) := by
 rw [← Bool.not_eq_true, Sw]
 omega
theorem Wq.eq {S : Int → Int → Bool} {u v m x y x' y' : Int} (h : Wq S u v m x y) (k : Wq S u v m x' y') : x = x' ∧ y = y' := by
 have a := Cs.mp (h.l x' y' k.o k.c)
 have b := Cs.mp (k.l x y h.o h.c)
 omega
noncomputable def Ed (u v m : Int) (p : B4) : Int × Int := (max p.x (u - m), max p.y (v - m))
section
variable {S : Int → Int → Bool} {u v m : Int} {ps : List B4}
theorem YI {p : B4} (hm : 0 ≤ m) (h2 : m ≤ ZK p u v) : Jk p (Qn u v m) = 0 ↔ ZK p u v = m := by
 show btw p.x p.y p.X p.Y (u - m) (v - m) (u + m) (v + m) = 0 ↔ _
 have k := Q3 (p := p) (u := u) (v := v) hm
 have e : btw p.x p.y p.X p.Y (u - m) (v - m) (u + m) (v + m) = 0 ↔ (u - p.X ≤ m ∧ p.x - u ≤ m) ∧ (v - p.Y ≤ m ∧ p.y - v ≤ m) := by
  unfold btw gp
  omega
 rw [e, ← k]
 omega
theorem Pieces.least (h : Pieces S u v ps) (h1 : ∃ p ∈ ps, ZK p u v = m) (h2 : ∀ p ∈ ps, m ≤ ZK p u v) (full : ∀ x y, S x y ≠ S u v → Z9 u v x y ≤ m → ∃ p ∈ ps, hasB p x y = true)
  {p : B4} (mp : p ∈ ps) (ep : ZK p u v = m) (hl : ∀ r ∈ ps, ZK r u v = m → ltP (Ed u v m r) (Ed u v m p) = false) : Wq S u v m (Ed u v m p).1 (Ed u v m p).2 := by
 have hm : 0 ≤ m := by rw [← ep]; exact YG _ _ _
 have k := h.Zbj h2 mp ((YI hm (h2 p mp)).mpr ep) hm
 refine ⟨k.1, k.2, fun x' y' q c => ?_⟩
 obtain ⟨r, mr, hr⟩ := full x' y' q (by omega)
 have d1 := JR (u := u) (v := v) hr
 have d2 := h2 r mr
 have z := Cs.mp (hl r mr (by omega))
 have hr' := Zv.mp hr
 have c' := ZL.mp (Int.le_of_eq c)
 rw [Cs]
 unfold Ed at z ⊢
 dsimp only at z ⊢
 omega
end
theorem Ml {bs : List B4} {u v m : Int} (h : anyB bs u v = false) : ∀ x y, anyB bs x y ≠ anyB bs u v → Z9 u v x y ≤ m → ∃ p ∈ bs, hasB p x y = true := fun x y q _ => by
 rw [h] at q
 exact QX (Bool.of_not_eq_false q)
theorem Rr {bs : List B4} {fr : B4} {u v m : Int} (hb : ∀ b ∈ bs, okB b = true) (hf : Frames fr bs) (h : anyB bs u v = true) (h2 : ∀ p ∈ Jg fr bs, m ≤ ZK p u v) :
  ∀ x y, anyB bs x y ≠ anyB bs u v → Z9 u v x y ≤ m → ∃ p ∈ Jg fr bs, hasB p x y = true := fun x y q c => by
 obtain ⟨b0, m0, h0⟩ := QX h
 have f0 := hf b0 m0
 have i0 := Zv.mp h0
 have hok : okB fr = true := ZV.mpr (by omega)
 have key : ∀ x y, hasB fr x y = true → anyB bs x y = false → ∃ p ∈ Jg fr bs, hasB p x y = true := fun x y a b => by
  have e := Yd hok hb x y
  rw [a, show (bs.any fun b => hasB b x y) = false from b] at e
  exact List.any_eq_true.mp e
 have edge : ∀ a b, hasB fr a b = true → (a = fr.x ∨ a = fr.X ∨ b = fr.y ∨ b = fr.Y) → m ≤ Z9 u v a b := fun a b ha hab => by
  obtain ⟨p, mp, hp⟩ := key a b ha (Bool.eq_false_iff.mpr fun t => by
   obtain ⟨b', mb, tb⟩ := QX t
   have fb := hf b' mb
   have ib := Zv.mp tb
   omega)
  exact Int.le_trans (h2 p mp) (JR hp)
 have c' := ZL.mp c
 have e1 := edge fr.x v (Zv.mpr (by omega)) (by omega)
 have e2 := edge fr.X v (Zv.mpr (by omega)) (by omega)
 have e3 := edge u fr.y (Zv.mpr (by omega)) (by omega)
 have e4 := edge u fr.Y (Zv.mpr (by omega)) (by omega)
 have g1 : Z9 u v fr.x v = u - fr.x := Int.le_antisymm (ZL.mpr (by omega)) (by have := ZL.mp (Int.le_refl (Z9 u v fr.x v)); omega)
 have g2 : Z9 u v fr.X v = fr.X - u := Int.le_antisymm (ZL.mpr (by omega)) (by have := ZL.mp (Int.le_refl (Z9 u v fr.X v)); omega)
 have g3 : Z9 u v u fr.y = v - fr.y := Int.le_antisymm (ZL.mpr (by omega)) (by have := ZL.mp (Int.le_refl (Z9 u v u fr.y)); omega)
 have g4 : Z9 u v u fr.Y = fr.Y - v := Int.le_antisymm (ZL.mpr (by omega)) (by have := ZL.mp (Int.le_refl (Z9 u v u fr.Y)); omega)
 refine key x y (Zv.mpr (by omega)) ?_
 rw [h] at q
 exact Bool.eq_false_iff.mpr q
noncomputable def Full (S : Int → Int → Bool) (u v : Int) (ps : List B4) : Prop := ∀ m, (∀ p ∈ ps, m ≤ ZK p u v) → ∀ x y, S x y ≠ S u v → Z9 u v x y ≤ m → ∃ p ∈ ps, hasB p x y = true
noncomputable def BO : DSp := fun xs M Φ => on1 xs fun x => Vj x fun bs => (1 ≤ bs.length ∧ bs.length ≤ 6) ∧ ∀ fr, Frames fr bs → Φ (.dat (bD fr)) M
theorem FW (xs : List DV) (M : Mp) (Φ : DK) : BO xs M Φ = (on1 xs fun x => Vj x fun bs => (1 ≤ bs.length ∧ bs.length ≤ 6) ∧ ∀ fr, Frames fr bs → Φ (.dat (bD fr)) M) := propext Iff.rfl
noncomputable def C8 : DSp := fun xs M Φ => on2 xs fun x y => Py x fun ps => onP y fun u v => (ps ≠ [] ∧ ps.length ≤ 4096) ∧ ∀ m, (∃ p ∈ ps, ZK p u v = m) → (∀ p ∈ ps, m ≤ ZK p u v) → Φ (.dat (.int m)) M
theorem Mh (xs : List DV) (M : Mp) (Φ : DK) : C8 xs M Φ = (on2 xs fun x y => Py x fun ps => onP y fun u v => (ps ≠ [] ∧ ps.length ≤ 4096) ∧ ∀ m, (∃ p ∈ ps, ZK p u v = m) → (∀ p ∈ ps, m ≤ ZK p u v) → Φ (.dat (.int m)) M) := propext Iff.rfl
noncomputable def W2 : DSp := fun xs M Φ => on2 xs fun x y => Vj x fun bs => onP y fun u v => Shp bs ∧ ∀ ps, Pieces (anyB bs) u v ps → Full (anyB bs) u v ps → ps.length ≤ 4096 → Φ (.dat (.list (ps.map bD))) M
theorem Hi (xs : List DV) (M : Mp) (Φ : DK) : W2 xs M Φ = (on2 xs fun x y => Vj x fun bs => onP y fun u v => Shp bs ∧ ∀ ps, Pieces (anyB bs) u v ps → Full (anyB bs) u v ps → ps.length ≤ 4096 → Φ (.dat (.list (ps.map bD))) M) := propext Iff.rfl
noncomputable def BG : DSp := fun xs M Φ => on2 xs fun x y => Vj x fun bs => onP y fun u v => Shp bs ∧ ∀ d, IsD (anyB bs) u v d → Φ (.dat (.int d)) M
theorem EW (xs : List DV) (M : Mp) (Φ : DK) : BG xs M Φ = (on2 xs fun x y => Vj x fun bs => onP y fun u v => Shp bs ∧ ∀ d, IsD (anyB bs) u v d → Φ (.dat (.int d)) M) := propext Iff.rfl
noncomputable def K4 : DSp := fun xs M Φ => on2 xs fun x y => Vj x fun bs => onP y fun u v => Shp bs ∧ ∀ a b, (∀ d, IsD (anyB bs) u v d → Wq (anyB bs) u v (ab d) a b) → Φ (.dat (.tuple [.int a, .int b])) M
theorem GU (xs : List DV) (M : Mp) (Φ : DK) : K4 xs M Φ = (on2 xs fun x y => Vj x fun bs => onP y fun u v => Shp bs ∧ ∀ a b, (∀ d, IsD (anyB bs) u v d → Wq (anyB bs) u v (ab d) a b) → Φ (.dat (.tuple [.int a, .int b])) M) := propext Iff.rfl
theorem Pu {bs : List B4} {u v : Int} {A B : Prop} (h1 : anyB bs u v = true → A) (h2 : anyB bs u v = false → B) : if anyB bs u v = true then A else B := by
 cases q : anyB bs u v with
 | true => rw [if_pos rfl]; exact h1 q
 | false => rw [if_neg Bool.false_ne_true]; exact h2 q
inductive Cv where
 | box (k : Int)
 | cut (w a : Int) (p q : Cv)
noncomputable def cvD : Cv → PyData
 | .box k => .tuple [.str (Str.ofString "box"), .int k]
 | .cut w a p q => .tuple [.str (Str.ofString "cut"), .int w, .int a, cvD p, cvD q]
noncomputable def Cv.dep : Cv → Nat
 | .box _ => 1
 | .cut _ _ p q => max p.dep q.dep + 1
theorem GQ (w a : Int) (p q : Cv) : (Cv.cut w a p q).dep = max p.dep q.dep + 1 := rfl
theorem Cv.Hb (c : Cv) : 1 ≤ c.dep := by cases c <;> simp [Cv.dep]
noncomputable def upB (b : B4) (w a : Int) : B4 := if w = 0 then ⟨b.x, b.y, a, b.Y⟩ else ⟨b.x, b.y, b.X, a⟩
noncomputable def owB (b : B4) (w a : Int) : B4 := if w = 0 then ⟨a, b.y, b.X, b.Y⟩ else ⟨b.x, a, b.X, b.Y⟩
noncomputable def loB (b : B4) (w : Int) : Int := if w = 0 then b.x else b.y
noncomputable def hiB (b : B4) (w : Int) : Int := if w = 0 then b.X else b.Y
noncomputable def allB (c b : B4) : Bool := hasB c b.x b.y && hasB c b.X b.Y
noncomputable def inB (c b : B4) : Bool := decide (c.x ≤ b.x ∧ c.y ≤ b.y ∧ b.X ≤ c.X ∧ b.Y ≤ c.Y)
noncomputable def Ds (bs : List B4) (k : Int) : Bool := decide (0 ≤ k) && decide (k < bs.length)
noncomputable def Xk (b : B4) (w a : Int) : Bool := (decide (w = 0) || decide (w = 1)) && (decide (loB b w ≤ a) && decide (a < hiB b w))
noncomputable def QD (bs : List B4) : B4 → Cv → Bool
 | b, .box k => Ds bs k && (match bs[k.toNat]? with | some c => allB c b | none => false)
 | b, .cut w a p q => Xk b w a && (QD bs (upB b w a) p && QD bs (owB b w (a + 1)) q)
noncomputable def Cov (bs : List B4) (b : B4) : Prop := ∀ u v, hasB b u v = true → anyB bs u v = true
theorem QH {b : B4} {w a : Int} : Xk b w a = true ↔ (w = 0 ∨ w = 1) ∧ loB b w ≤ a ∧ a < hiB b w := by
 unfold Xk
 simp only [Bool.and_eq_true, Bool.or_eq_true, decide_eq_true_eq]
theorem allB_iff {c b : B4} : allB c b = true ↔ (c.x ≤ b.x ∧ b.x ≤ c.X ∧ c.y ≤ b.y ∧ b.y ≤ c.Y) ∧ (c.x ≤ b.X ∧ b.X ≤ c.X ∧ c.y ≤ b.Y ∧ b.Y ≤ c.Y) := by
 unfold allB hasB
 rw [Bool.and_eq_true, decide_eq_true_eq, decide_eq_true_eq]
theorem SN {c b : B4} (hb : okB b = true) (h : inB c b = true) : allB c b = true := by
 rw [ZV] at hb
 unfold inB at h
 have h := of_decide_eq_true h
 rw [allB_iff]
 omega
theorem PJ {b : B4} {w a u v : Int} (h : hasB b u v = true) (hw : w = 0 ∨ w = 1) : hasB (upB b w a) u v = true ∨ hasB (owB b w (a + 1)) u v = true := by
 rw [Zv] at *
 rw [Zv]
 rcases hw with rfl | rfl
 ·unfold upB owB
  rw [if_pos rfl, if_pos rfl]
  dsimp only
  omega
 ·unfold upB owB
  rw [if_neg (by decide), if_neg (by decide)]
  dsimp only
  omega
theorem HV {b : B4} {w a u v : Int} (hw : w = 0 ∨ w = 1) (h1 : loB b w ≤ a) (h2 : a < hiB b w) : (hasB (upB b w a) u v = true → hasB b u v = true) ∧ (hasB (owB b w (a + 1)) u v = true → hasB b u v = true) := by
 rw [Zv, Zv, Zv]
 rcases hw with rfl | rfl
 ·unfold upB owB
  unfold loB at h1
  unfold hiB at h2
  rw [if_pos rfl] at h1 h2
  rw [if_pos rfl, if_pos rfl]
  dsimp only
  omega
 ·unfold upB owB
  unfold loB at h1
  unfold hiB at h2
  rw [if_neg (by decide)] at h1 h2
  rw [if_neg (by decide), if_neg (by decide)]
  dsimp only
  omega
theorem Pb {b : B4} {w a : Int} (hb : okB b = true) (hw : w = 0 ∨ w = 1) (h1 : loB b w ≤ a) (h2 : a < hiB b w) : okB (upB b w a) = true ∧ okB (owB b w (a + 1)) = true := by
 rw [ZV] at *
 rw [ZV]
 rcases hw with rfl | rfl
 ·unfold upB owB
  unfold loB at h1
  unfold hiB at h2
  rw [if_pos rfl] at h1 h2
  rw [if_pos rfl, if_pos rfl]
  dsimp only
  omega
 ·unfold upB owB
  unfold loB at h1
  unfold hiB at h2
  rw [if_neg (by decide)] at h1 h2
  rw [if_neg (by decide), if_neg (by decide)]
  dsimp only
  omega
theorem EC {bs : List B4} {b c : B4} {i : Nat} (hi : bs[i]? = some c) (h : allB c b = true) : QD bs b (.box (i : Int)) = true := by
 unfold QD Ds
 have hl := (List.getElem?_eq_some_iff.mp hi).1
 rw [decide_eq_true (show (0 : Int) ≤ (i : Int) by omega), decide_eq_true (show (i : Int) < bs.length by omega), Int.toNat_natCast, hi]
 exact h
theorem Fg {bs : List B4} {b : B4} {w a : Int} {p q : Cv} (hw : w = 0 ∨ w = 1) (h1 : loB b w ≤ a) (h2 : a < hiB b w) (hp : QD bs (upB b w a) p = true) (hq : QD bs (owB b w (a + 1)) q = true) : QD bs b (.cut w a p q) = true := by
 unfold QD
 rw [QH.mpr ⟨hw, h1, h2⟩, hp, hq]
 rfl
theorem Cov.sub {bs : List B4} {b : B4} {w a : Int} (h : Cov bs b) (hw : w = 0 ∨ w = 1) (h1 : loB b w ≤ a) (h2 : a < hiB b w) : Cov bs (upB b w a) ∧ Cov bs (owB b w (a + 1)) :=
 ⟨fun u v z => h u v ((HV hw h1 h2).1 z), fun u v z => h u v ((HV hw h1 h2).2 z)⟩
noncomputable def Qp (b : B4) (w : Int) (c : B4) : Bool := decide (loB b w ≤ hiB c w) && decide (hiB c w < hiB b w)
noncomputable def C9 (bs : List B4) (b : B4) : Nat := bs.countP (Qp b 0) + bs.countP (Qp b 1)
theorem KI {α : Type} {p q : α → Bool} : ∀ {l : List α}, (∀ x ∈ l, p x = true → q x = true) → (∃ x ∈ l, q x = true ∧ p x = false) → l.countP p < l.countP q
 | [], _, ⟨x, hx, _⟩ => (nomatch hx)
 | a :: l, h, ⟨x, hx, h1, h2⟩ => by
  have hm : l.countP p ≤ l.countP q := List.countP_mono_left fun y hy => h y (List.mem_cons_of_mem _ hy)
  rw [List.countP_cons, List.countP_cons]
  rcases List.mem_cons.mp hx with rfl | hx
  ·rw [h1, h2]
   simp
   omega
  ·have ih := KI (fun y hy => h y (List.mem_cons_of_mem _ hy)) ⟨x, hx, h1, h2⟩
   cases e : p a with
   | false => simp; omega
   | true => rw [h a List.mem_cons_self e]; simp; omega
theorem Zav (bs : List B4) (b : B4) : C9 bs b ≤ 2 * bs.length := by
 unfold C9
 have h1 := List.countP_le_length (l := bs) (p := Qp b 0)
 have h2 := List.countP_le_length (l := bs) (p := Qp b 1)
 omega
theorem Xc {b : B4} {w a w' : Int} (hw : w = 0 ∨ w = 1) (hw' : w' = 0 ∨ w' = 1) (h1 : loB b w ≤ a) (h2 : a < hiB b w) (c : B4) : (Qp (upB b w a) w' c = true → Qp b w' c = true) ∧ (Qp (owB b w (a + 1)) w' c = true → Qp b w' c = true) := by
 unfold Qp
 simp only [Bool.and_eq_true, decide_eq_true_eq]
 rcases hw with rfl | rfl <;> rcases hw' with rfl | rfl <;> simp only [upB, owB, loB, hiB, if_true, if_false, Int.reduceEq] at * <;> omega
theorem Of {b : B4} {w a : Int} (hw : w = 0 ∨ w = 1) (c : B4) (e : hiB c w = a) : Qp (upB b w a) w c = false ∧ Qp (owB b w (a + 1)) w c = false := by
 unfold Qp
 simp only [Bool.and_eq_false_iff, decide_eq_false_iff_not]
 rcases hw with rfl | rfl <;> simp only [upB, owB, loB, hiB, if_true, if_false, Int.reduceEq] at * <;> omega
theorem P6 {bs : List B4} {b : B4} {w a : Int} (hw : w = 0 ∨ w = 1) (h1 : loB b w ≤ a) (h2 : a < hiB b w) {c : B4} (hc : c ∈ bs) (e : hiB c w = a) : C9 bs (upB b w a) < C9 bs b ∧ C9 bs (owB b w (a + 1)) < C9 bs b := by
 have here : Qp b w c = true := by
  unfold Qp
  rw [e, decide_eq_true h1, decide_eq_true h2]
  rfl
 have g := Of (b := b) (a := a) hw c e
 have k := fun w' (hw' : w' = 0 ∨ w' = 1) => (⟨List.countP_mono_left fun c _ => (Xc hw hw' h1 h2 c).1, List.countP_mono_left fun c _ => (Xc hw hw' h1 h2 c).2⟩ : bs.countP (Qp (upB b w a) w') ≤ bs.countP (Qp b w') ∧ bs.countP (Qp (owB b w (a + 1)) w') ≤ bs.countP (Qp b w'))
 have s1 := KI (l := bs) (p := Qp (upB b w a) w) (q := Qp b w) (fun c _ => (Xc hw hw h1 h2 c).1) ⟨c, hc, here, g.1⟩
 have s2 := KI (l := bs) (p := Qp (owB b w (a + 1)) w) (q := Qp b w) (fun c _ => (Xc hw hw h1 h2 c).2) ⟨c, hc, here, g.2⟩
 unfold C9
 have k0 := k 0 (.inl rfl)
 have k1 := k 1 (.inr rfl)
 rcases hw with rfl | rfl <;> omega
noncomputable def ZM : PyData → Bool
 | .int _ => true
 | _ => false
noncomputable def Ti (bs : List B4) : PyData → Bool
 | .int k => Ds bs k
 | _ => false
noncomputable def YH (b : B4) : PyData → PyData → Bool
 | .int w, .int a => Xk b w a
 | _, _ => false
noncomputable def Ke (bs : List B4) (b : B4) : PyData → Bool
 | .int k => Ds bs k && (match bs[k.toNat]? with | some c => allB c b | none => false)
 | _ => false
noncomputable def upD (b : B4) : PyData → PyData → B4
 | .int w, .int a => upB b w a
 | _, _ => b
noncomputable def owD (b : B4) : PyData → PyData → B4
 | .int w, .int a => owB b w (a + 1)
 | _, _ => b
noncomputable def ZH (bs : List B4) : Nat → B4 → PyData → Bool
 | 0, _, _ => false
 | _ + 1, b, .tuple [h, k] => isS h (Str.ofString "box") && Ke bs b k
 | n + 1, b, .tuple [h, w, a, p, q] => isS h (Str.ofString "cut") && (YH b w a && (ZH bs n (upD b w a) p && ZH bs n (owD b w a) q))
 | _ + 1, _, _ => false
noncomputable def Pap : Nat → PyData → Prop
 | 0, _ => False
 | _ + 1, .tuple [h, _] => h.canLay0 = true
 | n + 1, .tuple [h, _, _, p, q] => h.canLay0 = true ∧ Pap n p ∧ Pap n q
 | _ + 1, _ => True
theorem VU {bs : List B4} {n : Nat} {b : B4} {ds : List PyData} (h2 : ds.length ≠ 2) (h5 : ds.length ≠ 5) : ZH bs (n + 1) b (.tuple ds) = false := by
 unfold ZH
 split
 ·cases ‹_›
 ·rename_i e
  simp only [PyData.tuple.injEq] at e
  rw [e] at h2
  exact absurd rfl h2
 ·rename_i e
  simp only [PyData.tuple.injEq] at e
  rw [e] at h5
  exact absurd rfl h5
 ·rfl
theorem KJ {ds : List PyData} (h : ds.length = 2) : ∃ a b, ds = [a, b] := by
 match ds, h with
 | [a, b], _ => exact ⟨a, b, rfl⟩
theorem KC {ds : List PyData} (h : ds.length = 5) : ∃ a b c d e, ds = [a, b, c, d, e] := by
 match ds, h with
 | [a, b, c, d, e], _ => exact ⟨a, b, c, d, e, rfl⟩
theorem Pap.up : ∀ {n : Nat} {d : PyData}, Pap n d → Pap (n + 1) d
 | 0, _, h => h.elim
 | n + 1, d, h => by
  cases d with
  | tuple ds =>
   by_cases h2 : ds.length = 2
   ·obtain ⟨a, b, rfl⟩ := KJ h2
    exact h
   ·by_cases h5 : ds.length = 5
    ·obtain ⟨a, b, c, p, q, rfl⟩ := KC h5
     exact ⟨h.1, Pap.up h.2.1, Pap.up h.2.2⟩
    ·match ds, h2, h5 with
     | [], _, _ => trivial
     | [_], _, _ => trivial
     | [_, _], h2, _ => exact absurd rfl h2
     | [_, _, _], _, _ => trivial
     | [_, _, _, _], _, _ => trivial
     | [_, _, _, _, _], _, h5 => exact absurd rfl h5
     | _ :: _ :: _ :: _ :: _ :: _ :: _, _, _ => trivial
  | _ => trivial
theorem Pap.le {n m : Nat} {d : PyData} (h : Pap n d) (hm : n ≤ m) : Pap m d := by
 obtain ⟨k, rfl⟩ := Nat.exists_eq_add_of_le hm
 clear hm
 induction k with
 | zero => exact h
 | succ k ih => exact ih.up
theorem Y7 {bs : List B4} : ∀ {n : Nat} {b : B4} {d : PyData}, Pap n d → ZH bs (n + 1) b d = ZH bs n b d
 | 0, _, _, h => h.elim
 | n + 1, b, d, h => by
  cases d with
  | tuple ds =>
   by_cases h2 : ds.length = 2
   ·obtain ⟨x, y, rfl⟩ := KJ h2
    rfl
   ·by_cases h5 : ds.length = 5
    ·obtain ⟨x, y, c, p, q, rfl⟩ := KC h5
     show (isS x _ && (YH b y c && (ZH bs (n + 1) _ p && ZH bs (n + 1) _ q))) = (isS x _ && (YH b y c && (ZH bs n _ p && ZH bs n _ q)))
     rw [Y7 h.2.1, Y7 h.2.2]
    ·rw [VU h2 h5, VU h2 h5]
  | _ => rfl
theorem VY {bs : List B4} : ∀ {n : Nat} {b : B4} {d : PyData}, ZH bs n b d = true → Cov bs b
 | 0, _, _, h, _, _, _ => by cases h
 | n + 1, b, d, h, u, v, hu => by
  cases d with
  | tuple ds =>
   by_cases h2 : ds.length = 2
   ·obtain ⟨x, k, rfl⟩ := KJ h2
    have h : (isS x (Str.ofString "box") && Ke bs b k) = true := h
    rw [Bool.and_eq_true] at h
    cases k with
    | int k =>
     have h2 : (Ds bs k && (match bs[k.toNat]? with | some c => allB c b | none => false)) = true := h.2
     rw [Bool.and_eq_true] at h2
     cases q : bs[k.toNat]? with
     | none => rw [q] at h2; exact absurd h2.2 Bool.false_ne_true
     | some c =>
      rw [q] at h2
      refine List.any_eq_true.mpr ⟨c, List.mem_of_getElem? q, ?_⟩
      have := allB_iff.mp h2.2
      rw [Zv] at *
      omega
    | _ => exact absurd h.2 Bool.false_ne_true
   ·by_cases h5 : ds.length = 5
    ·obtain ⟨x, w, a, p, q, rfl⟩ := KC h5
     have h : (isS x (Str.ofString "cut") && (YH b w a && (ZH bs n (upD b w a) p && ZH bs n (owD b w a) q))) = true := h
     rw [Bool.and_eq_true, Bool.and_eq_true, Bool.and_eq_true] at h
     obtain ⟨_, hc, hp, hq⟩ := h
     cases w with
     | int w =>
      cases a with
      | int a =>
       have hc : Xk b w a = true := hc
       rcases PJ (a := a) hu (QH.mp hc).1 with z | z
       ·exact VY hp u v z
       ·exact VY hq u v z
      | _ => cases hc
     | _ => cases hc
    ·rw [VU h2 h5] at h
     cases h
  | _ => cases h
noncomputable def Cv.wok : Cv → Prop
 | .box k => 0 ≤ k ∧ k < 7
 | .cut w _ p q => (w = 0 ∨ w = 1) ∧ p.wok ∧ q.wok
theorem Zw {s : String} (h : autoParam ((PyData.str (Str.ofString s)).canLay0 = true) zz9._auto_1) : (PyData.str (Str.ofString s)).canLay0 = true := h
theorem CP : ∀ {c : Cv} {n : Nat}, c.dep ≤ n → Pap n (cvD c)
 | c, 0, h => by have := c.Hb; omega
 | .box k, n + 1, _ => Zw (s := "box")
 | .cut w a p q, n + 1, h => by
  rw [GQ] at h
  exact ⟨Zw (s := "cut"), CP (by omega), CP (by omega)⟩
noncomputable def spW : DSp := fun xs M Φ => on1 xs fun x => onD x fun d => Φ (.dat (.bool (ZM d))) M
theorem Zdf (xs : List DV) (M : Mp) (Φ : DK) : spW xs M Φ = (on1 xs fun x => onD x fun d => Φ (.dat (.bool (ZM d))) M) := propext Iff.rfl
noncomputable def XW : DSp := fun xs M Φ => on2 xs fun x y => onX x fun a => onX y fun b => Φ (.dat (.bool (allB a b))) M
theorem Dy (xs : List DV) (M : Mp) (Φ : DK) : XW xs M Φ = (on2 xs fun x y => onX x fun a => onX y fun b => Φ (.dat (.bool (allB a b))) M) := propext Iff.rfl
noncomputable def ZcT : DSp := fun xs M Φ => on3 xs fun x y z => onX x fun b => onI y fun i => onI z fun a => Φ (.dat (bD (upB b i a))) M
theorem Zbu (xs : List DV) (M : Mp) (Φ : DK) : ZcT xs M Φ = (on3 xs fun x y z => onX x fun b => onI y fun i => onI z fun a => Φ (.dat (bD (upB b i a))) M) := propext Iff.rfl
noncomputable def ZcR : DSp := fun xs M Φ => on3 xs fun x y z => onX x fun b => onI y fun i => onI z fun a => Φ (.dat (bD (owB b i a))) M
theorem Zak (xs : List DV) (M : Mp) (Φ : DK) : ZcR xs M Φ = (on3 xs fun x y z => onX x fun b => onI y fun i => onI z fun a => Φ (.dat (bD (owB b i a))) M) := propext Iff.rfl
noncomputable def S1 : DSp := fun xs M Φ => on2 xs fun x y => Vj x fun bs => onD y fun k => Φ (.dat (.bool (Ti bs k))) M
theorem R3 (xs : List DV) (M : Mp) (Φ : DK) : S1 xs M Φ = (on2 xs fun x y => Vj x fun bs => onD y fun k => Φ (.dat (.bool (Ti bs k))) M) := propext Iff.rfl
noncomputable def HP : DSp := fun xs M Φ => on3 xs fun x y z => onX x fun b => onD y fun i => onD z fun a => Φ (.dat (.bool (YH b i a))) M
theorem L6 (xs : List DV) (M : Mp) (Φ : DK) : HP xs M Φ = (on3 xs fun x y z => onX x fun b => onD y fun i => onD z fun a => Φ (.dat (.bool (YH b i a))) M) := propext Iff.rfl
noncomputable def XC (n : Nat) : DSp := fun xs M Φ => on3 xs fun x y z => Vj x fun bs => onX y fun b => onD z fun d => Pap n d ∧ Φ (.dat (.bool (ZH bs n b d))) M
theorem Li (n : Nat) (xs : List DV) (M : Mp) (Φ : DK) : XC n xs M Φ = (on3 xs fun x y z => Vj x fun bs => onX y fun b => onD z fun d => Pap n d ∧ Φ (.dat (.bool (ZH bs n b d))) M) := propext Iff.rfl
theorem U2 (xs : List DV) (M : Mp) (Φ : DK) : ¬ XC 0 xs M Φ := fun h => by
 replace h := ZS h
 obtain ⟨x, y, z, rfl, h⟩ := h
 replace h := Z0 h
 obtain ⟨bs, rfl, h⟩ := h
 replace h := ZY h
 obtain ⟨b, rfl, h⟩ := h
 replace h := Qo h
 obtain ⟨d, rfl, h, _⟩ := h
 exact h
noncomputable def shB (c : B4) : B4 := ⟨c.x, c.y, c.x - 1, c.y - 1⟩
noncomputable def dbl (bs : List B4) : List B4 := bs ++ bs.map shB
theorem Zdj (c : B4) (w : Int) : hiB (shB c) w = loB c w - 1 := by
 unfold hiB loB shB
 split <;> rfl
noncomputable def SK (bs : List B4) (b : B4) (w z : Int) : Prop := (loB b w ≤ z ∧ z < hiB b w) ∧ ∃ c ∈ dbl bs, hiB c w = z
theorem Pn {b : B4} {w : Int} (h : w = 0 ∨ w = 1) (P : PyData → Prop) : Ku [.int b.x, .int b.y] w P = P (.int (loB b w)) := by
 rcases h with rfl | rfl <;> rfl
theorem PQ {b : B4} {w : Int} (h : w = 0 ∨ w = 1) (P : PyData → Prop) : Ku [.int b.X, .int b.Y] w P = P (.int (hiB b w)) := by
 rcases h with rfl | rfl <;> rfl
noncomputable def plB (b : B4) (w : Int) (bs : List B4) : List Int := bs.flatMap fun c => if Jk c b = 0 then [loB c w - 1, hiB c w] else []
theorem NF {b c : B4} {w : Int} {bs : List B4} {i : Nat} (h : bs[i]? = some c) : plB b w (bs.take (i + 1)) = plB b w (bs.take i) ++ (if Jk c b = 0 then [loB c w - 1, hiB c w] else []) := by
 unfold plB
 rw [List.take_add_one, h, List.flatMap_append]
 simp
theorem FJ (b : B4) (w : Int) (bs : List B4) : (plB b w bs).length ≤ bs.length * 2 :=
 X1 _ 2 bs fun c _ => by split <;> simp
theorem R5 {b : B4} {w z : Int} {bs : List B4} (h : z ∈ plB b w bs) : ∃ c ∈ dbl bs, hiB c w = z := by
 obtain ⟨c, hc, hz⟩ := List.mem_flatMap.mp h
 split at hz
 ·simp only [List.mem_cons, List.not_mem_nil, or_false] at hz
  rcases hz with rfl | rfl
  ·exact ⟨shB c, List.mem_append_right _ (List.mem_map_of_mem hc), Zdj c w⟩
  ·exact ⟨c, List.mem_append_left _ hc, rfl⟩
 ·cases hz
theorem Ra {b c : B4} {w : Int} {bs : List B4} (hc : c ∈ bs) (h0 : Jk c b = 0) : hiB c w ∈ plB b w bs :=
 List.mem_flatMap.mpr ⟨c, hc, by rw [if_pos h0]; simp⟩
theorem Rc {bs : List B4} {b : B4} (hb : okB b = true) (hc : Cov bs b) (hn : ∀ c ∈ bs, allB c b = false) : ∃ c ∈ bs, Jk c b = 0 ∧ (Qp b 0 c = true ∨ Qp b 1 c = true) := by
 rw [ZV] at hb
 obtain ⟨c, hm, h⟩ := List.any_eq_true.mp (hc b.x b.y (by rw [Zv]; omega))
 rw [Zv] at h
 have hi : ¬ allB c b = true := by rw [hn c hm]; exact Bool.false_ne_true
 rw [allB_iff] at hi
 refine ⟨c, hm, ?_, ?_⟩
 ·unfold Jk btw gp
  omega
 ·unfold Qp
  simp only [Bool.and_eq_true, decide_eq_true_eq, loB, hiB, if_true, if_false, Int.reduceEq]
  omega
theorem Lv {b c : B4} {w : Int} : Qp b w c = true ↔ loB b w ≤ hiB c w ∧ hiB c w < hiB b w := by
 unfold Qp
 simp only [Bool.and_eq_true, decide_eq_true_eq]
noncomputable def Uk : DSp := fun xs M Φ => on3 xs fun x y z => Vj x fun bs => onX y fun b => onI z fun w => (bs.length ≤ 6 ∧ (w = 0 ∨ w = 1)) ∧ ∀ ks : List Int, (∀ z ∈ ks, SK bs b w z) → (∀ c ∈ bs, Jk c b = 0 → Qp b w c = true → hiB c w ∈ ks) → Φ (.dat (.list (ks.map PyData.int))) M
theorem D8 (xs : List DV) (M : Mp) (Φ : DK) : Uk xs M Φ = (on3 xs fun x y z => Vj x fun bs => onX y fun b => onI z fun w => (bs.length ≤ 6 ∧ (w = 0 ∨ w = 1)) ∧ ∀ ks : List Int, (∀ z ∈ ks, SK bs b w z) → (∀ c ∈ bs, Jk c b = 0 → Qp b w c = true → hiB c w ∈ ks) → Φ (.dat (.list (ks.map PyData.int))) M) := propext Iff.rfl
noncomputable def Y9 (n : Nat) : DSp := fun xs M Φ => on2 xs fun x y => Vj x fun bs => onX y fun b => ((bs.length ≤ 6 ∧ okB b = true ∧ Cov bs b) ∧ C9 (dbl bs) b < n) ∧ ∀ c, QD bs b c = true → c.dep ≤ n → Φ (.dat (cvD c)) M
theorem ET (n : Nat) (xs : List DV) (M : Mp) (Φ : DK) : Y9 n xs M Φ = (on2 xs fun x y => Vj x fun bs => onX y fun b => ((bs.length ≤ 6 ∧ okB b = true ∧ Cov bs b) ∧ C9 (dbl bs) b < n) ∧ ∀ c, QD bs b c = true → c.dep ≤ n → Φ (.dat (cvD c)) M) := propext Iff.rfl
theorem U3 (xs : List DV) (M : Mp) (Φ : DK) : ¬ Y9 0 xs M Φ := fun h => by
 replace h := Zz h
 obtain ⟨x, y, rfl, h⟩ := h
 replace h := Z0 h
 obtain ⟨bs, rfl, h⟩ := h
 replace h := ZY h
 obtain ⟨b, rfl, h⟩ := h
 exact absurd h.1.2 (Nat.not_lt_zero _)
noncomputable def Lst (bs : List B4) (b : B4) (u v : Int) : Prop := (hasB b u v = true ∧ anyB bs u v = false) ∧ ∀ u' v', hasB b u' v' = true → anyB bs u' v' = false → u < u' ∨ (u = u' ∧ v ≤ v')
noncomputable def Kk : DSp := fun xs M Φ => on2 xs fun x y => Vj x fun bs => onX y fun b => (Shp bs ∧ okB b = true) ∧ (Cov bs b → ∀ c, QD bs b c = true → c.dep ≤ 25 → Φ (.dat (.tuple [.str (Str.ofString "yes"), cvD c])) M) ∧ ∀ u v, Lst bs b u v → Φ (.dat (.tuple [.str (Str.ofString "no"), .tuple [.int u, .int v]])) M
theorem GP (xs : List DV) (M : Mp) (Φ : DK) : Kk xs M Φ = (on2 xs fun x y => Vj x fun bs => onX y fun b => (Shp bs ∧ okB b = true) ∧ (Cov bs b → ∀ c, QD bs b c = true → c.dep ≤ 25 → Φ (.dat (.tuple [.str (Str.ofString "yes"), cvD c])) M) ∧ ∀ u v, Lst bs b u v → Φ (.dat (.tuple [.str (Str.ofString "no"), .tuple [.int u, .int v]])) M) := propext Iff.rfl
theorem NU {bs : List B4} {b : B4} (hb : okB b = true) (hs : ∀ c ∈ bs, okB c = true) (r : Int × Int) (hr : r ∈ (Jg b bs).map fun p => (p.x, p.y)) (lr : ∀ s ∈ (Jg b bs).map (fun p => (p.x, p.y)), ltP s r = false) : Lst bs b r.1 r.2 := by
 obtain ⟨p, mp, rfl⟩ := List.mem_map.mp hr
 have op := ZV.mp (Cj hb mp).1
 have la := Yd hb hs p.x p.y
 rw [List.any_eq_true.mpr ⟨p, mp, by rw [Zv]; omega⟩] at la
 have la := (Bool.and_eq_true _ _).mp la.symm
 refine ⟨⟨la.1, by simpa using la.2⟩, fun u v hu nu => ?_⟩
 have lb := Yd hb hs u v
 rw [hu, show (bs.any fun b => hasB b u v) = false from nu] at lb
 obtain ⟨p', mp', hp'⟩ := List.any_eq_true.mp (by exact lb)
 rw [Zv] at hp'
 have := lr (p'.x, p'.y) (List.mem_map.mpr ⟨p', mp', rfl⟩)
 unfold ltP at this
 dsimp only at this ⊢
 split at this <;> simp only [decide_eq_false_iff_not] at this <;> omega
theorem Oe {bs : List B4} {b : B4} (hb : okB b = true) (hs : ∀ c ∈ bs, okB c = true) (h : Jg b bs = []) : Cov bs b := fun u v hu => by
 have la := Yd hb hs u v
 rw [h, hu] at la
 simpa using la
theorem Bj {b : Bool} {A B : Prop} (h1 : b = true → A) (h2 : ¬ b = true → B) : if b = true then A else B := by
 cases b
 ·exact h2 (by decide)
 ·exact h1 rfl
inductive Ppr where
 | inn (n a b : Int) (c : Cv)
 | out (n a b : Int)
noncomputable def ppD : Ppr → PyData
 | .inn n a b c => .tuple [.str (Str.ofString "in"), .int n, .tuple [.int a, .int b], cvD c]
 | .out n a b => .tuple [.str (Str.ofString "out"), .int n, .tuple [.int a, .int b]]
noncomputable def Ppr.ok : Ppr → Prop
 | .inn _ _ _ c => c.dep ≤ 25
 | .out _ _ _ => True
noncomputable def Zds (x : DV) (P : Ppr → Prop) : Prop := ∃ p, x = .dat (ppD p) ∧ p.ok ∧ P p
theorem Sr {p : Ppr} {P : Ppr → Prop} (h : p.ok) (k : P p) : Zds (.dat (ppD p)) P := ⟨p, rfl, h, k⟩
noncomputable def Rgt (bs : List B4) (u v : Int) : Ppr → Prop
 | .inn n a b c => IsD (anyB bs) u v n ∧ (anyB bs a b = false ∧ Z9 u v a b = n) ∧ anyB bs u v = true ∧ QD bs (Qn u v (n - 1)) c = true
 | .out n a b => IsD (anyB bs) u v (-n) ∧ (anyB bs a b = true ∧ Z9 u v a b = n) ∧ anyB bs u v = false
theorem Rn {bs : List B4} {u v d : Int} (h : IsD (anyB bs) u v d) (hp : 0 < d) : Cov bs (Qn u v (d - 1)) := fun x y hx => by
 rw [Zv] at hx
 unfold Qn at hx
 dsimp only at hx
 have hs := h.sg
 rw [decide_eq_true hp] at hs
 cases q : anyB bs x y with
 | true => rfl
 | false =>
  have m := h.mn x y (by rw [q, hs]; exact Bool.false_ne_true)
  have e := QU d
  have := ZL.mpr (show (-(d - 1) ≤ u - x ∧ u - x ≤ d - 1) ∧ (-(d - 1) ≤ v - y ∧ v - y ≤ d - 1) by omega)
  omega
theorem P5 {bs : List B4} {u v n a b : Int} (hn : 1 ≤ n) (hc : Cov bs (Qn u v (n - 1))) (ho : anyB bs a b = false) (hd : Z9 u v a b = n) : IsD (anyB bs) u v n ∧ anyB bs u v = true := by
 have key : ∀ x y, Z9 u v x y ≤ n - 1 → anyB bs x y = true := fun x y h => by
  have h := ZL.mp h
  refine hc x y ?_
  rw [Zv]
  unfold Qn
  dsimp only
  omega
 have uv : anyB bs u v = true := key u v (by rw [ZL]; omega)
 have e := QU n
 refine ⟨⟨?_, by omega, ⟨a, b, by rw [ho, uv]; exact Bool.false_ne_true, by omega⟩, fun x y q => ?_⟩, uv⟩
 ·rw [uv, decide_eq_true (by omega)]
 ·rw [uv] at q
  by_cases z : ab n ≤ Z9 u v x y
  ·exact z
  ·exact absurd (key x y (by omega)) q
theorem Th {bs : List B4} {u v n a b : Int} (hn : 1 ≤ n) (hall : ∀ c ∈ bs, n ≤ ZK c u v) (ho : anyB bs a b = true) (hd : Z9 u v a b = n) : IsD (anyB bs) u v (-n) ∧ anyB bs u v = false := by
 have key : ∀ x y, anyB bs x y = true → n ≤ Z9 u v x y := fun x y h => by
  obtain ⟨c, mc, hc⟩ := QX h
  exact Int.le_trans (hall c mc) (JR hc)
 have uv : anyB bs u v = false := Bool.eq_false_iff.mpr fun z => by
  have := key u v z
  have k : Z9 u v u v ≤ 0 := ZL.mpr (by omega)
  omega
 have e := QU (-n)
 refine ⟨⟨?_, by omega, ⟨a, b, by rw [ho, uv]; exact (Bool.false_ne_true ·.symm), by omega⟩, fun x y q => ?_⟩, uv⟩
 ·rw [uv, decide_eq_false (by omega)]
 ·rw [uv] at q
  have := key x y (Bool.of_not_eq_false q)
  omega
theorem Lst.not {bs : List B4} {b : B4} {u v : Int} (h : Lst bs b u v) : ¬ Cov bs b := fun c => by
 have := c u v h.1.1
 rw [h.1.2] at this
 cases this
noncomputable def awB (u v n a b : Int) : Bool := decide (1 ≤ n) && decide (Z9 u v a b = n)
noncomputable def Jr : PyData → Bool
 | .tuple [.int _, .int _] => true
 | _ => false
noncomputable def awD (u v : Int) : PyData → PyData → Bool
 | .int n, .tuple [.int a, .int b] => awB u v n a b
 | _, _ => false
noncomputable def inD (bs : List B4) (u v : Int) : PyData → PyData → PyData → Bool
 | .int n, .tuple [.int a, .int b], c => !anyB bs a b && ZH bs 26 (Qn u v (n - 1)) c
 | _, _, _ => false
noncomputable def outD (bs : List B4) (u v : Int) : PyData → PyData → Bool
 | .int n, .tuple [.int a, .int b] => anyB bs a b && bs.all fun c => decide (n ≤ ZK c u v)
 | _, _ => false
noncomputable def QO (bs : List B4) (u v : Int) : PyData → Bool
 | .tuple [h, n, o, c] => awD u v n o && (isS h (Str.ofString "in") && inD bs u v n o c)
 | .tuple [h, n, o] => awD u v n o && (isS h (Str.ofString "out") && outD bs u v n o)
 | _ => false
noncomputable def Pps : PyData → Prop
 | .tuple [h, _, _, c] => h.canLay0 = true ∧ Pap 26 c
 | .tuple [h, _, _] => h.canLay0 = true
 | _ => True
theorem K0 {d : PyData} (h : Jr d = true) : ∃ a b, d = .tuple [.int a, .int b] := by
 unfold Jr at h
 split at h
 ·exact ⟨_, _, rfl⟩
 ·cases h
theorem Gp {u v : Int} {n o : PyData} (h : awD u v n o = true) : ∃ k a b, n = .int k ∧ o = .tuple [.int a, .int b] ∧ awB u v k a b = true := by
 unfold awD at h
 split at h
 ·exact ⟨_, _, _, rfl, rfl, h⟩
 ·cases h
theorem BS {ds : List PyData} (h : ds.length ≠ 2) : Jr (.tuple ds) = false := by
 cases e : Jr (.tuple ds) with
 | false => rfl
 | true =>
  obtain ⟨a, b, q⟩ := K0 e
  rw [PyData.tuple.injEq] at q
  rw [q] at h
  exact absurd rfl h
noncomputable def Xe : DSp := fun xs M Φ => on1 xs fun x => onD x fun d => Φ (.dat (.bool (Jr d))) M
theorem UJ (xs : List DV) (M : Mp) (Φ : DK) : Xe xs M Φ = (on1 xs fun x => onD x fun d => Φ (.dat (.bool (Jr d))) M) := propext Iff.rfl
noncomputable def KL : DSp := fun xs M Φ => on3 xs fun x y z => onP x fun u v => onD y fun n => onD z fun o => Φ (.dat (.bool (awD u v n o))) M
theorem GV (xs : List DV) (M : Mp) (Φ : DK) : KL xs M Φ = (on3 xs fun x y z => onP x fun u v => onD y fun n => onD z fun o => Φ (.dat (.bool (awD u v n o))) M) := propext Iff.rfl
noncomputable def W3 : DSp := fun xs M Φ => on3 xs fun x y z => Vj x fun bs => onP y fun u v => onI z fun n => bs.length ≤ 6 ∧ Φ (.dat (.bool (bs.all fun c => decide (n ≤ ZK c u v)))) M
theorem DR (xs : List DV) (M : Mp) (Φ : DK) : W3 xs M Φ = (on3 xs fun x y z => Vj x fun bs => onP y fun u v => onI z fun n => bs.length ≤ 6 ∧ Φ (.dat (.bool (bs.all fun c => decide (n ≤ ZK c u v)))) M) := propext Iff.rfl
noncomputable def BC : DSp := fun xs M Φ => on2 xs fun x y => Vj x fun bs => onP y fun u v => Shp bs ∧ ∀ p : Ppr, p.ok → Rgt bs u v p → Φ (.dat (ppD p)) M
theorem EG (xs : List DV) (M : Mp) (Φ : DK) : BC xs M Φ = (on2 xs fun x y => Vj x fun bs => onP y fun u v => Shp bs ∧ ∀ p : Ppr, p.ok → Rgt bs u v p → Φ (.dat (ppD p)) M) := propext Iff.rfl
noncomputable def WY : DSp := fun xs M Φ => on3 xs fun x y z => Vj x fun bs => onP y fun u v => onD z fun d => (Shp bs ∧ Pps d) ∧ Φ (.dat (.bool (QO bs u v d))) M
theorem Ej (xs : List DV) (M : Mp) (Φ : DK) : WY xs M Φ = (on3 xs fun x y z => Vj x fun bs => onP y fun u v => onD z fun d => (Shp bs ∧ Pps d) ∧ Φ (.dat (.bool (QO bs u v d))) M) := propext Iff.rfl
theorem EM {bs : List B4} {u v : Int} {ds : List PyData} (h3 : ds.length ≠ 3) (h4 : ds.length ≠ 4) : QO bs u v (.tuple ds) = false := by
 match ds, h3, h4 with
 | [], _, _ => rfl
 | [_], _, _ => rfl
 | [_, _], _, _ => rfl
 | [_, _, _], h3, _ => exact absurd rfl h3
 | [_, _, _, _], _, h4 => exact absurd rfl h4
 | _ :: _ :: _ :: _ :: _ :: _, _, _ => rfl
theorem W7 {ds : List PyData} (h : ds.length = 3) : ∃ a b c, ds = [a, b, c] := by
 match ds, h with
 | [a, b, c], _ => exact ⟨a, b, c, rfl⟩
theorem BH {ds : List PyData} (h : ds.length = 4) : ∃ a b c d, ds = [a, b, c, d] := by
 match ds, h with
 | [a, b, c, d], _ => exact ⟨a, b, c, d, rfl⟩
noncomputable def ZaC (o : OO) : Prop := ∃ a b c : Int, 0 ≤ a ∧ (0 ≤ b ∧ b < 2147483587) ∧ 0 ≤ c ∧ o = .lst [.int a, .int b, .int c]
noncomputable def Pen (M : Mp) (p : Addr) : Prop := ∃ o, ZaC o ∧ M p = some o
theorem Pen.Z3 {M : Mp} {p : Addr} {o : OO} (h : ZaC o) : Pen (Z3 M p o) p := ⟨o, h, ZU⟩
theorem Pen.ne {M : Mp} {p q : Addr} (h : Pen M p) (hq : M q = none) : p ≠ q := fun e => by
 obtain ⟨o, _, ho⟩ := h
 rw [e, hq] at ho
 cases ho
theorem Pen.put {M : Mp} {p q : Addr} {o : OO} (h : Pen M p) (hq : p ≠ q) : Pen (DL.Z3 M q o) p := by
 obtain ⟨o', h1, h2⟩ := h
 exact ⟨o', h1, by rw [Qm hq]; exact h2⟩
theorem Pen.del {M : Mp} {p q : Addr} (h : Pen M p) (hq : p ≠ q) : Pen (DL.K6 M q) p := by
 obtain ⟨o', h1, h2⟩ := h
 exact ⟨o', h1, by rw [FZ hq]; exact h2⟩
noncomputable def ZcI (x : DV) (P : List Int → Prop) : Prop := ∃ ns, x = .dat (.list (ns.map PyData.int)) ∧ P ns
theorem Sg {x : DV} {P : List Int → Prop} (h : ZcI x P) : ∃ ns, x = .dat (.list (ns.map PyData.int)) ∧ P ns := h
theorem Kz : ∀ {as bs : List Int}, as.map PyData.int = bs.map PyData.int → as = bs
 | [], [], _ => rfl
 | [], _ :: _, h => by simp at h
 | _ :: _, [], h => by simp at h
 | a :: as, b :: bs, h => by
  rw [List.map_cons, List.map_cons, List.cons.injEq, PyData.int.injEq] at h
  rw [h.1, Kz h.2]
theorem RN (bs : List Int) (P : List Int → Prop) : ZcI (.dat (.list (bs.map PyData.int))) P = P bs := propext ⟨fun ⟨cs, e, h⟩ => by
 rw [DV.dat.injEq, PyData.list.injEq] at e
 rw [Kz e]
 exact h, fun h => ⟨bs, rfl, h⟩⟩
theorem tab {l : List Int} {r : Int} (P : Int → Prop) (h0 : 0 ≤ r) (h1 : r < l.length) (hl : ∀ w ∈ l, P w) {Q : PyData → Prop} (k : ∀ w, P w → Q (.int w)) : Ku (l.map PyData.int) r Q := by
 obtain ⟨w, hw, e⟩ := Ry h0 h1
 exact JE e (k w (hl w hw))
noncomputable def E9 : DSp := fun xs M Φ => on2 xs fun x y => ZcI x fun ns => onI y fun k => 0 ≤ k ∧ ∀ p o, M p = none → ZaC o → Φ (.own p) (Z3 M p o)
theorem Nx (xs : List DV) (M : Mp) (Φ : DK) : E9 xs M Φ = (on2 xs fun x y => ZcI x fun ns => onI y fun k => 0 ≤ k ∧ ∀ p o, M p = none → ZaC o → Φ (.own p) (Z3 M p o)) := propext Iff.rfl
noncomputable def Fr (p : Addr) (M M' : Mp) : Prop := Pen M' p ∧ ∀ a, a ≠ p → M a ≠ none → M' a = M a
theorem Fr.refl {p : Addr} {M : Mp} (h : Pen M p) : Fr p M M := ⟨h, fun _ _ _ => rfl⟩
theorem Fr.trans {p : Addr} {M M1 M2 : Mp} (h : Fr p M M1) (k : Fr p M1 M2) : Fr p M M2 := ⟨k.1, fun a ha hn => by
 have e := h.2 a ha hn
 rw [← e]
 exact k.2 a ha (by rw [e]; exact hn)⟩
theorem Fr.Z3 {p : Addr} {M : Mp} {o : OO} (h : ZaC o) : Fr p M (Z3 M p o) := ⟨Pen.Z3 h, fun a ha _ => Qm ha⟩
theorem Fr.own {p q : Addr} {M M' : Mp} {o : OO} (h : Fr p M M') (hq : M q = some o) (hne : q ≠ p) : M' q = some o := by
 rw [h.2 q hne (by rw [hq]; exact Option.some_ne_none _)]
 exact hq
theorem Fr.new {p q : Addr} {M M' : Mp} {o : OO} (h : Fr p M M') (hq : M q = none) (hne : q ≠ p) : Fr p M (DL.Z3 M' q o) := ⟨h.1.put (Ne.symm hne), fun a ha hn => by
 rw [Qm (fun e => hn (by rw [e]; exact hq))]
 exact h.2 a ha hn⟩
noncomputable def YF : DSp := fun xs M Φ => on2 xs fun x y => onO x fun p => onI y fun m => (0 < m ∧ m < 10 ^ 20) ∧ Pen M p ∧ ∀ r M', 0 ≤ r → r < m → Fr p M M' → Φ (.dat (.int r)) M'
theorem N3 (xs : List DV) (M : Mp) (Φ : DK) : YF xs M Φ = (on2 xs fun x y => onO x fun p => onI y fun m => (0 < m ∧ m < 10 ^ 20) ∧ Pen M p ∧ ∀ r M', 0 ≤ r → r < m → Fr p M M' → Φ (.dat (.int r)) M') := propext Iff.rfl
theorem Pen.get {M : Mp} {p : Addr} (h : Pen M p) : ∃ a b c : Int, (0 ≤ a ∧ (0 ≤ b ∧ b < 2147483587) ∧ 0 ≤ c) ∧ M p = some (.lst [.int a, .int b, .int c]) := by
 obtain ⟨o, ⟨a, b, c, ha, hb, hc, eo⟩, hp⟩ := h
 exact ⟨a, b, c, ⟨ha, hb, hc⟩, by rw [hp, eo]⟩
theorem Ms {R : Int → Int → Prop} {bs es : List Int} {A B : Int} (hl : bs.length = es.length) (h : ∀ (i : Nat) (a b : Int), bs[i]? = some a → es[i]? = some b → R a b) (k : R A B) : ∀ (i : Nat) (a b : Int), (bs ++ [A])[i]? = some a → (es ++ [B])[i]? = some b → R a b := fun i a b ha hb => by
 by_cases hi : i < bs.length
 ·rw [List.getElem?_append_left hi] at ha
  rw [List.getElem?_append_left (by omega)] at hb
  exact h i a b ha hb
 ·have h1 := (List.getElem?_eq_some_iff.mp ha).1
  rw [List.length_append, List.length_singleton] at h1
  obtain rfl : i = bs.length := by omega
  rw [List.getElem?_append_right (Nat.le_refl _), Nat.sub_self] at ha
  rw [hl, List.getElem?_append_right (Nat.le_refl _), Nat.sub_self] at hb
  cases ha
  cases hb
  exact k
theorem BJ {l : List Int} (h : l.length = 2) : ∃ a b, l = [a, b] := by
 match l, h with
 | [a, b], _ => exact ⟨a, b, rfl⟩
noncomputable def Grd (n : Nat) (bs : List B4) : Prop := 1 ≤ bs.length ∧ bs.length ≤ n ∧ ∀ b ∈ bs, Cel b
noncomputable def Frm (t ox oy : Int) : Prop := (1 ≤ t ∧ t ≤ 10 ^ 10) ∧ (-(10 ^ 12) ≤ ox ∧ ox ≤ 10 ^ 12) ∧ (-(10 ^ 12) ≤ oy ∧ oy ≤ 10 ^ 12)
noncomputable def GN (x : DV) (P : Int → Int → Int → Prop) : Prop := match x with | .dat (.tuple [.int i, .int j, .int k]) => P i j k | _ => False
theorem Hl (i j k : Int) (P : Int → Int → Int → Prop) : GN (.dat (.tuple [.int i, .int j, .int k])) P = P i j k := propext Iff.rfl
theorem X5 {x : DV} {P : Int → Int → Int → Prop} (h : GN x P) : ∃ i j k, x = .dat (.tuple [.int i, .int j, .int k]) ∧ P i j k := by
 unfold GN at h
 split at h
 ·exact ⟨_, _, _, rfl, h⟩
 ·exact h.elim
noncomputable def UQ : DSp := fun xs M Φ => on1 xs fun x => onO x fun p => Pen M p ∧ ∀ bs M', Grd 6 bs → Pen M' p → Φ (.dat (.list (bs.map bD))) M'
theorem OG (xs : List DV) (M : Mp) (Φ : DK) : UQ xs M Φ = (on1 xs fun x => onO x fun p => Pen M p ∧ ∀ bs M', Grd 6 bs → Pen M' p → Φ (.dat (.list (bs.map bD))) M') := propext Iff.rfl
noncomputable def Rp : DSp := fun xs M Φ => on2 xs fun x y => onO x fun p => onX y fun b => Cel b ∧ Pen M p ∧ ∀ c M', Cel c → Fr p M M' → Φ (.dat (bD c)) M'
theorem Rq (xs : List DV) (M : Mp) (Φ : DK) : Rp xs M Φ = (on2 xs fun x y => onO x fun p => onX y fun b => Cel b ∧ Pen M p ∧ ∀ c M', Cel c → Fr p M M' → Φ (.dat (bD c)) M') := propext Iff.rfl
noncomputable def Up : DSp := fun xs M Φ => on1 xs fun x => onO x fun p => Pen M p ∧ ∀ t ox oy M', Frm t ox oy → Pen M' p → Φ (.dat (.tuple [.int t, .int ox, .int oy])) M'
theorem Dq (xs : List DV) (M : Mp) (Φ : DK) : Up xs M Φ = (on1 xs fun x => onO x fun p => Pen M p ∧ ∀ t ox oy M', Frm t ox oy → Pen M' p → Φ (.dat (.tuple [.int t, .int ox, .int oy])) M') := propext Iff.rfl
noncomputable def He : DSp := fun xs M Φ => on2 xs fun x y => Py x fun bs => GN y fun t ox oy => Grd 6 bs ∧ Φ (.dat (.tuple ((bs.map (VJ t ox oy)).map bD))) M
theorem N5 (xs : List DV) (M : Mp) (Φ : DK) : He xs M Φ = (on2 xs fun x y => Py x fun bs => GN y fun t ox oy => Grd 6 bs ∧ Φ (.dat (.tuple ((bs.map (VJ t ox oy)).map bD))) M) := propext Iff.rfl
noncomputable def Cells (bs : List B4) (ks : List (List Key)) : Prop := ∀ i j, PH ks (kP i j) = anyB bs i j
noncomputable def Bu : DSp := fun xs M Φ => on1 xs fun x => Py x fun bs => Grd 6 bs ∧ ∀ l ks, M l = none → Cells bs ks → Φ (.own l) (Z3 M l (.dct ks))
theorem FL (xs : List DV) (M : Mp) (Φ : DK) : Bu xs M Φ = (on1 xs fun x => Py x fun bs => Grd 6 bs ∧ ∀ l ks, M l = none → Cells bs ks → Φ (.own l) (Z3 M l (.dct ks))) := propext Iff.rfl
noncomputable def Fs (x : Int) : Prop := -999999999999 ≤ x ∧ x ≤ 999999999999
noncomputable def Za7 : DSp := fun xs M Φ => on2 xs fun x y => onO x fun p => GN y fun t ox oy => Frm t ox oy ∧ Pen M p ∧ ∀ u v M', Fs u → Fs v → Fr p M M' → Φ (.dat (.tuple [.int u, .int v])) M'
noncomputable def Lc : DSp := fun xs M Φ => on3 xs fun x y z => onP x fun i j => GN y fun t ox oy => onP z fun u v => ((-(10 ^ 3) ≤ i ∧ i ≤ 10 ^ 3) ∧ (-(10 ^ 3) ≤ j ∧ j ≤ 10 ^ 3)) ∧ Φ (.dat (.int (ZK (Jj t ox oy i j) u v))) M
theorem LV (xs : List DV) (M : Mp) (Φ : DK) : Lc xs M Φ = (on3 xs fun x y z => onP x fun i j => GN y fun t ox oy => onP z fun u v => ((-(10 ^ 3) ≤ i ∧ i ≤ 10 ^ 3) ∧ (-(10 ^ 3) ≤ j ∧ j ≤ 10 ^ 3)) ∧ Φ (.dat (.int (ZK (Jj t ox oy i j) u v))) M) := propext Iff.rfl
noncomputable def Tp (t ox oy u v : Int) (c : Int × Int) : PyData := .tuple [prD c, .int (ZK (Jj t ox oy c.1 c.2) u v)]
noncomputable def Oth (bs : List B4) (t ox oy u v : Int) (cs : List (Int × Int)) : Prop := ∀ i j, (i, j) ∈ cs ↔ ((-1 ≤ i ∧ i ≤ 12) ∧ (-1 ≤ j ∧ j ≤ 12)) ∧ anyB bs i j ≠ anyB bs ((u - ox) / t) ((v - oy) / t)
noncomputable def Zbt (x : DV) (M : Mp) (P : List B4 → Prop) : Prop := ∃ l ks bs, x = .own l ∧ M l = some (.dct ks) ∧ Cells bs ks ∧ P bs
theorem H9 {x : DV} {M : Mp} {P : List B4 → Prop} (h : Zbt x M P) : ∃ l ks bs, x = .own l ∧ M l = some (.dct ks) ∧ Cells bs ks ∧ P bs := h
noncomputable def W4 : DSp := fun xs M Φ => on3 xs fun x y z => GN y fun t ox oy => onP z fun u v => Zbt x M fun bs => Frm t ox oy ∧
 ∀ cs, Oth bs t ox oy u v cs → cs.length ≤ 196 → Φ (.dat (.tuple [.bool (anyB bs ((u - ox) / t) ((v - oy) / t)), .list (cs.map (Tp t ox oy u v))])) M
theorem Dh (xs : List DV) (M : Mp) (Φ : DK) : W4 xs M Φ = (on3 xs fun x y z => GN y fun t ox oy => onP z fun u v => Zbt x M fun bs => Frm t ox oy ∧ ∀ cs, Oth bs t ox oy u v cs → cs.length ≤ 196 → Φ (.dat (.tuple [.bool (anyB bs ((u - ox) / t) ((v - oy) / t)), .list (cs.map (Tp t ox oy u v))])) M) := propext Iff.rfl
theorem ZeE {l : List B4} (h : ∀ b ∈ l, b.x ≤ b.X ∧ b.y ≤ b.Y ∧ (0 ≤ b.x ∧ b.X ≤ 11) ∧ (0 ≤ b.y ∧ b.Y ≤ 11)) : ∀ b ∈ l, Cel b := fun b hb => ⟨ZV.mpr ⟨(h b hb).1, (h b hb).2.1⟩, (h b hb).2.2⟩
noncomputable def Wth (x : Int) : Prop := -10000000000000 ≤ x ∧ x ≤ 10000000000000
noncomputable def B1 : DSp := fun xs M Φ => on2 xs fun x y => onO x fun p => GN y fun t ox oy => Frm t ox oy ∧ Pen M p ∧ ∀ u v M', (Wth u ∧ Wth v) → Fr p M M' → Φ (.dat (.tuple [.int u, .int v])) M'
theorem ZfO {x y X Y : Int} {j : Nat} (h : j < 2) : ∃ lo hi : Int, (lo = x ∧ hi = X ∨ lo = y ∧ hi = Y) ∧ (∀ P : PyData → Prop, Ku [.int x, .int y] (j : Int) P = P (.int lo)) ∧ (∀ P : PyData → Prop, Ku [.int X, .int Y] (j : Int) P = P (.int hi)) := by
 have two : j = 0 ∨ j = 1 := by omega
 rcases two with rfl | rfl
 ·exact ⟨x, X, .inl ⟨rfl, rfl⟩, fun P => rfl, fun P => rfl⟩
 ·exact ⟨y, Y, .inr ⟨rfl, rfl⟩, fun P => rfl, fun P => rfl⟩
theorem Zci {i j i' j' : Int} : kP i j = kP i' j' ↔ i = i' ∧ j = j' := by
 unfold kP
 simp
theorem Zfm {t ox oy : Int} {j : Nat} (h : j < 2) : ∃ o : Int, (o = ox ∨ o = oy) ∧ (∀ P : PyData → Prop, Ku [.int t, .int ox, .int oy] (1 + (j : Int)) P = P (.int o)) := by
 have two : j = 0 ∨ j = 1 := by omega
 rcases two with rfl | rfl
 ·exact ⟨ox, .inl rfl, fun P => rfl⟩
 ·exact ⟨oy, .inr rfl, fun P => rfl⟩
theorem OH {t o r w : Int} (ht : 1 ≤ t ∧ t ≤ 10000000000) (ho : -1000000000000 ≤ o ∧ o ≤ 1000000000000) (h0 : 0 ≤ r) (h1 : r < 16) (hw : 0 ≤ w ∧ w ≤ t) : Wth ((r - 2) * t + o + w) := by
 have a1 := Int.mul_le_mul_of_nonneg_right (show r - 2 ≤ 13 by omega) (show 0 ≤ t by omega)
 have a2 := Int.mul_le_mul_of_nonneg_right (show -2 ≤ r - 2 by omega) (show 0 ≤ t by omega)
 unfold Wth
 omega
theorem PD (k t o u : Int) : gp (k + o) (k + t - 1 + o) u u = max 0 (max (k + o - u) (u - (k + o) - t + 1)) := by
 unfold gp
 omega
theorem OF (a b : Int) : max (max 0 a) b = max (max 0 a) (max 0 b) := by omega
theorem TV (i j t ox oy u v : Int) : max (max 0 (max (i * t + ox - u) (u - (i * t + ox) - t + 1))) (max (j * t + oy - v) (v - (j * t + oy) - t + 1)) = ZK (Jj t ox oy i j) u v := by
 show _ = max (gp (i * t + ox) (i * t + t - 1 + ox) u u) (gp (j * t + oy) (j * t + t - 1 + oy) v v)
 rw [PD, PD]
 exact OF _ _
theorem strOk {f ox oy : Int} {b : B4} (hf : 1 ≤ f) (h : okB b = true) : okB (VJ f ox oy b) = true := by
 rw [ZV] at *
 unfold VJ
 dsimp only
 have h1 := Int.mul_le_mul_of_nonneg_right h.1 (show 0 ≤ f by omega)
 have h2 := Int.mul_le_mul_of_nonneg_right h.2 (show 0 ≤ f by omega)
 omega
noncomputable def C5 : DSp := fun xs M Φ => on2 xs fun x y => onX x fun c => onX y fun b => Φ (.dat (.bool (inB c b))) M
theorem Nw (xs : List DV) (M : Mp) (Φ : DK) : C5 xs M Φ = (on2 xs fun x y => onX x fun c => onX y fun b => Φ (.dat (.bool (inB c b))) M) := propext Iff.rfl
noncomputable def G1 : DSp := fun xs M Φ => on3 xs fun x y z => onX x fun b => onI y fun i => onI z fun a => (i = 0 ∨ i = 1) ∧ Φ (.dat (.list [bD (upB b i a), bD (owB b i (a + 1))])) M
theorem EF (xs : List DV) (M : Mp) (Φ : DK) : G1 xs M Φ = (on3 xs fun x y z => onX x fun b => onI y fun i => onI z fun a => (i = 0 ∨ i = 1) ∧ Φ (.dat (.list [bD (upB b i a), bD (owB b i (a + 1))])) M) := propext Iff.rfl
noncomputable def Far (b : B4) : Prop := (-(10 ^ 13) ≤ b.x ∧ b.X ≤ 10 ^ 13) ∧ (-(10 ^ 13) ≤ b.y ∧ b.Y ≤ 10 ^ 13)
noncomputable def Ext (M M' : Mp) : Prop := ∀ a, M a ≠ none → M' a = M a
theorem Ext.refl (M : Mp) : Ext M M := fun _ _ => rfl
theorem Ext.new {M M' : Mp} {q : Addr} {o : OO} (h : Ext M M') (hq : M q = none) : Ext M (Z3 M' q o) := fun a ha => by
 rw [Qm fun e => ha (by rw [e]; exact hq)]
 exact h a ha
theorem Ext.none {M M' : Mp} {q : Addr} (h : Ext M M') (hq : M' q = none) : M q = none := by
 cases e : M q with
 | none => rfl
 | some o => have := h q (by rw [e]; exact Option.some_ne_none _); rw [hq, e] at this; cases this
noncomputable def ZaI : DSp := fun xs M Φ => on1 xs fun x => onD x fun d => Φ (.dat (.bool (ZM d))) M
theorem T8 (xs : List DV) (M : Mp) (Φ : DK) : ZaI xs M Φ = (on1 xs fun x => onD x fun d => Φ (.dat (.bool (ZM d))) M) := propext Iff.rfl
noncomputable def FG : DSp := fun xs M Φ => on3 xs fun x y z => Vj x fun bs => onX y fun b => onT z fun ds => ∃ h k, ds = [h, k] ∧ (h.canLay0 = true ∧ okB b = true) ∧ Φ (.dat (.bool (isS h (Str.ofString "box") && Ke bs b k))) M
theorem Ma (xs : List DV) (M : Mp) (Φ : DK) : FG xs M Φ = (on3 xs fun x y z => Vj x fun bs => onX y fun b => onT z fun ds => ∃ h k, ds = [h, k] ∧ (h.canLay0 = true ∧ okB b = true) ∧ Φ (.dat (.bool (isS h (Str.ofString "box") && Ke bs b k))) M) := propext Iff.rfl
noncomputable def Fy (n : Nat) : DSp := fun xs M Φ => on3 xs fun x y z => Vj x fun bs => onX y fun b => onD z fun d => (Pap n d ∧ okB b = true ∧ n ≤ 26) ∧ ∀ M', Ext M M' → Φ (.dat (.bool (ZH bs n b d))) M'
theorem Oo (n : Nat) (xs : List DV) (M : Mp) (Φ : DK) : Fy n xs M Φ = (on3 xs fun x y z => Vj x fun bs => onX y fun b => onD z fun d => (Pap n d ∧ okB b = true ∧ n ≤ 26) ∧ ∀ M', Ext M M' → Φ (.dat (.bool (ZH bs n b d))) M') := propext Iff.rfl
theorem Zab {c b : B4} (hb : okB b = true) : inB c b = allB c b := by
 rw [Bool.eq_iff_iff]
 refine ⟨SN hb, fun h => ?_⟩
 have := allB_iff.mp h
 unfold inB
 exact decide_eq_true (by omega)
noncomputable def wD (e : B4 × PyData) : PyData := .tuple [bD e.1, e.2]
noncomputable def Wait (bs : List B4) (R : Bool) (ws : List (B4 × PyData)) : Prop := (∀ e ∈ ws, okB e.1 = true ∧ Pap 26 e.2) ∧ (ws.all fun e => ZH bs 26 e.1 e.2) = R
theorem Wait.last {bs : List B4} {R : Bool} {ws : List (B4 × PyData)} {e : B4 × PyData} (h : Wait bs R (ws ++ [e])) : (okB e.1 = true ∧ Pap 26 e.2) ∧ (∀ x ∈ ws, okB x.1 = true ∧ Pap 26 x.2) ∧ ((ws.all fun e => ZH bs 26 e.1 e.2) && ZH bs 26 e.1 e.2) = R := by
 obtain ⟨h1, h2⟩ := h
 refine ⟨h1 e (by simp), fun x hx => h1 x (by simp [hx]), ?_⟩
 rw [← h2, List.all_append]
 simp
theorem Wait.no {bs : List B4} {R : Bool} {ws : List (B4 × PyData)} {e : B4 × PyData} (h : Wait bs R (ws ++ [e])) (k : ZH bs 26 e.1 e.2 = false) : R = false := by
 have := h.last.2.2
 rw [k, Bool.and_false] at this
 exact this.symm
theorem Wait.drop {bs : List B4} {R : Bool} {ws : List (B4 × PyData)} {e : B4 × PyData} (h : Wait bs R (ws ++ [e])) (k : ZH bs 26 e.1 e.2 = true) : Wait bs R ws := by
 have := h.last.2
 rw [k, Bool.and_true] at this
 exact this
theorem Wait.split {bs : List B4} {R : Bool} {ws : List (B4 × PyData)} {b : B4} {x p q : PyData} {i a : Int} (h : Wait bs R (ws ++ [(b, .tuple [x, .int i, .int a, p, q])])) (hx : isS x (Str.ofString "cut") = true) (hc : Xk b i a = true) :
  Wait bs R (ws ++ [(upB b i a, p), (owB b i (a + 1), q)]) := by
 obtain ⟨⟨hb, hp⟩, h1, h2⟩ := h.last
 have hp : Pap 25 p ∧ Pap 25 q := ⟨hp.2.1, hp.2.2⟩
 have hb : okB b = true := hb
 have cc := QH.mp hc
 have so := Pb hb cc.1 cc.2.1 cc.2.2
 refine ⟨fun e he => ?_, ?_⟩
 ·rcases List.mem_append.mp he with he | he
  ·exact h1 e he
  ·simp only [List.mem_cons, List.not_mem_nil, or_false] at he
   rcases he with rfl | rfl
   ·exact ⟨so.1, hp.1.up⟩
   ·exact ⟨so.2, hp.2.up⟩
 ·rw [← h2, List.all_append]
  have e : ZH bs 26 b (.tuple [x, .int i, .int a, p, q]) = (isS x (Str.ofString "cut") && (Xk b i a && (ZH bs 25 (upB b i a) p && ZH bs 25 (owB b i (a + 1)) q))) := rfl
  show (_ && _) = (_ && ZH bs 26 b (.tuple [x, .int i, .int a, p, q]))
  rw [e, hx, hc, ← Y7 hp.1, ← Y7 hp.2]
  simp
noncomputable def wsz (ws : List (B4 × PyData)) : Nat := (ws.map fun e => sizeOf e.2).sum
theorem Cc (ws : List (B4 × PyData)) (e : B4 × PyData) : wsz (ws ++ [e]) = wsz ws + sizeOf e.2 := by
 unfold wsz
 rw [List.map_append, List.sum_append]
 simp
theorem size_pos (d : PyData) : 0 < sizeOf d := by cases d <;> simp <;> omega
theorem Hu (ws : List (B4 × PyData)) (b b1 b2 : B4) (x i a p q : PyData) : wsz (ws ++ [(b1, p), (b2, q)]) < wsz (ws ++ [(b, .tuple [x, i, a, p, q])]) := by
 rw [Cc]
 unfold wsz
 rw [List.map_append, List.sum_append]
 simp
 omega
noncomputable def Dep (ws : List (B4 × PyData)) : Prop := ∀ j e, ws[j]? = some e → Pap (26 - j) e.2
theorem Dep.drop {ws : List (B4 × PyData)} {e : B4 × PyData} (h : Dep (ws ++ [e])) : Dep ws := fun j x hj => h j x (by rw [List.getElem?_append_left (List.getElem?_eq_some_iff.mp hj).1]; exact hj)
theorem Dep.len {ws : List (B4 × PyData)} (h : Dep ws) : ws.length ≤ 26 := by
 by_cases hl : ws.length ≤ 26
 ·exact hl
 ·have := h 26 _ (List.getElem?_eq_getElem (by omega))
  exact this.elim
theorem Dep.split {ws : List (B4 × PyData)} {b b1 b2 : B4} {x i a p q : PyData} (h : Dep (ws ++ [(b, .tuple [x, i, a, p, q])])) : Dep (ws ++ [(b1, p), (b2, q)]) := by
 have top := h ws.length _ (by rw [List.getElem?_append_right (Nat.le_refl _), Nat.sub_self]; rfl)
 have hl := h.len
 rw [List.length_append, List.length_singleton] at hl
 obtain ⟨n, hn⟩ : ∃ n, 26 - ws.length = n + 1 := ⟨25 - ws.length, by omega⟩
 rw [hn] at top
 have hp : Pap n p ∧ Pap n q := ⟨top.2.1, top.2.2⟩
 intro j e he
 by_cases hj : j < ws.length
 ·rw [List.getElem?_append_left hj] at he
  exact h j e (by rw [List.getElem?_append_left hj]; exact he)
 ·rw [List.getElem?_append_right (by omega)] at he
  have hz := (List.getElem?_eq_some_iff.mp he).1
  simp only [List.length_cons, List.length_nil] at hz
  have two : j = ws.length ∨ j = ws.length + 1 := by omega
  rcases two with rfl | rfl
  ·rw [Nat.sub_self] at he
   cases he
   exact hp.1.le (by omega)
  ·rw [Nat.add_sub_cancel_left] at he
   cases he
   exact hp.2.le (by omega)
theorem ZfP {i j : Nat} {x y : PyData} {Δ : DSt} {M : Mp} {K : DSt → Mp → Prop} (h : K ((Δ.set i (some (.dat x))).set j (some (.dat y))) M) : onT (.dat (.tuple [x, y])) fun ds => LM 2 ds fun xs => Cr (Kp i) (Cr (Kp j) Rt) xs Δ M K := h
theorem P8 {h : PyData} {s : Str} {P : Bool → Prop} (hl : h.canLay0 = true) (hs : (PyData.str s).canLay0 = true) (p : P (isS h s)) : eqD h (.str s) P := VM hl hs p
theorem NI {t : DTT} {a b : DTS} {D : QL} {Δ : DSt} {M : Mp} (h : ∀ B : DTS, B = b → ZcH t a B D Δ M) : ZcH t a b D Δ M := h b rfl
noncomputable def Zdm (bs : List B4) (b : B4) (d : PyData) (M0 : Mp) (R : Bool) (m : Nat) (Δ : DSt) (M : Mp) : Prop :=
 ∃ q ws x4 x5 x6 x7 x8, Δ = [some (.dat (.tuple (bs.map bD))), some (.dat (bD b)), some (.dat d), some (.own q), x4, x5, x6, x7, x8] ∧ M q = some (.lst (ws.map wD)) ∧ M0 q = none ∧ Ext M0 M ∧ (Wait bs R ws ∧ Dep ws) ∧ m = wsz ws
theorem P0 {t ox oy : Int} {bs : List B4} (hf : Frm t ox oy) (hg : Grd 6 bs) {c : B4} (hc : c ∈ bs.map (VJ t ox oy)) : (ox ≤ c.x ∧ c.X ≤ ox + 120000000000) ∧ (oy ≤ c.y ∧ c.Y ≤ oy + 120000000000) := by
 obtain ⟨b, hb, rfl⟩ := List.mem_map.mp hc
 obtain ⟨_, h1, h2⟩ := hg.2.2 b hb
 unfold Frm at hf
 have a1 := Int.mul_nonneg h1.1 (show 0 ≤ t by omega)
 have a2 := Int.mul_nonneg h2.1 (show 0 ≤ t by omega)
 have a3 := Int.mul_le_mul_of_nonneg_right h1.2 (show 0 ≤ t by omega)
 have a4 := Int.mul_le_mul_of_nonneg_right h2.2 (show 0 ≤ t by omega)
 unfold VJ
 dsimp only
 omega
theorem Ext.own {M M' : Mp} {a : Addr} {o : OO} (h : Ext M M') (k : M a = some o) : M' a = some o := by rw [h a (by rw [k]; exact Option.some_ne_none _)]; exact k
theorem Ext.trans {M M' M'' : Mp} (h : Ext M M') (k : Ext M' M'') : Ext M M'' := fun a ha => by
 have e := h a ha
 rw [k a (by rw [e]; exact ha), e]
theorem Ext.pen {M M' : Mp} {p : Addr} (h : Ext M M') (k : Pen M p) : Pen M' p := by
 obtain ⟨o, ho, hp⟩ := k
 exact ⟨o, ho, h.own hp⟩
theorem Dc (l : List Bool) : okIn (.bool true) (l.map PyData.bool) = true ∧ ((l.map PyData.bool).any fun e => PyData.eqv e (.bool true)) = l.any id := by
 have lay : ∀ l : List Bool, PyData.canLayAll0 (l.map PyData.bool) = true := fun l => by
  induction l with
  | nil => simp [PyData.canLayAll0]
  | cons x l ih => rw [List.map_cons, PyData.canLayAll0, ih]; simp [PyData.canLay0]
 constructor
 ·unfold okIn
  rw [lay]
  simp [PyData.canLay0, PyData.depth]
 ·rw [List.any_map]
  congr 1
  funext x
  show PyData.eqv (.bool x) (.bool true) = x
  rw [Zcz]
  cases x <;> rfl
theorem Zdu (c : B4) (a b : Int) : inB c ⟨a, b, a, b⟩ = hasB c a b := by
 unfold inB hasB
 rw [decide_eq_decide]
 dsimp only
 omega
noncomputable def Sds (bs : List B4) (t ox oy u v : Int) (cs : List (Int × Int)) : Prop := (Frm t ox oy ∧ Grd 6 bs) ∧ Oth bs t ox oy u v cs ∧ cs.length ≤ 196
noncomputable def sdD (bs : List B4) (t ox oy u v : Int) (cs : List (Int × Int)) : PyData := .tuple [.bool (anyB bs ((u - ox) / t) ((v - oy) / t)), .list (cs.map (Tp t ox oy u v))]
theorem Sds.least {bs : List B4} {t ox oy u v : Int} {cs : List (Int × Int)} (h : Sds bs t ox oy u v cs) {m : Int} (hm : m ∈ cs.map fun c => ZK (Jj t ox oy c.1 c.2) u v) (hn : ∀ a ∈ cs.map (fun c => ZK (Jj t ox oy c.1 c.2) u v), m ≤ a) :
  IsD (anyB (bs.map (VJ t ox oy))) u v (if anyB (bs.map (VJ t ox oy)) u v = true then m else -m) := by
 obtain ⟨⟨hf, hg⟩, hcs, _⟩ := h
 have pc := XD hf.1.1 hg.2.2 (fun z => by have := hg.1; rw [z] at this; exact absurd this (by decide)) hcs
 refine pc.depth ?_ fun q mq => ?_
 ·obtain ⟨c, mc, e⟩ := List.mem_map.mp hm
  exact ⟨_, List.mem_map.mpr ⟨c, mc, rfl⟩, e⟩
 ·obtain ⟨c, mc, rfl⟩ := List.mem_map.mp mq
  exact hn _ (List.mem_map.mpr ⟨c, mc, rfl⟩)
theorem Sds.pos {bs : List B4} {t ox oy u v : Int} {cs : List (Int × Int)} (h : Sds bs t ox oy u v cs) : 0 < cs.length := by
 obtain ⟨⟨hf, hg⟩, hcs, _⟩ := h
 have pc := XD hf.1.1 hg.2.2 (fun z => by have := hg.1; rw [z] at this; exact absurd this (by decide)) hcs
 exact List.length_pos_iff.mpr fun z => pc.ne (by rw [z]; rfl)
noncomputable def WJ : DSp := fun xs M Φ => on3 xs fun x y z => Vj x fun bs => onP y fun u v => onD z fun d => (Shp bs ∧ Pps d) ∧ ∀ M', Ext M M' → Φ (.dat (.bool (QO bs u v d))) M'
theorem Ei (xs : List DV) (M : Mp) (Φ : DK) : WJ xs M Φ = (on3 xs fun x y z => Vj x fun bs => onP y fun u v => onD z fun d => (Shp bs ∧ Pps d) ∧ ∀ M', Ext M M' → Φ (.dat (.bool (QO bs u v d))) M') := propext Iff.rfl
theorem ZdC {u v n : Int} : (⟨u - n + 1, v - n + 1, u + n - 1, v + n - 1⟩ : B4) = Qn u v (n - 1) := by
 unfold Qn
 congr 1 <;> omega
theorem Ek {α : Type} {l : List α} {i : Nat} {x : α} (h : l[i]? = some x) : l.take (i + 1) = l.take i ++ [x] := by
 rw [List.take_succ, h]
 rfl
theorem O9 {d : PyData} {s : Str} (h : isS d s = true) : d = .str s := by
 unfold isS at h
 split at h
 ·rw [of_decide_eq_true h]
 ·cases h
theorem OD {bs : List B4} {u v : Int} {d : PyData} (hs : Shp bs) (h : QO bs u v d = true) : ∃ (s : Str) (n : Int) (o : PyData) (r : List PyData), d = .tuple (.str s :: .int n :: o :: r) ∧ decide (s = Str.ofString "in") = anyB bs u v ∧ IsD (anyB bs) u v (if anyB bs u v = true then n else -n) := by
 cases d with
 | tuple ds =>
  by_cases h4 : ds.length = 4
  ·obtain ⟨x, n, o, c, rfl⟩ := BH h4
   have e : QO bs u v (.tuple [x, n, o, c]) = (awD u v n o && (isS x (Str.ofString "in") && inD bs u v n o c)) := rfl
   rw [e, Bool.and_eq_true, Bool.and_eq_true] at h
   obtain ⟨h1, h2, hh⟩ := h
   obtain ⟨k, a, b, rfl, rfl, ha⟩ := Gp h1
   obtain rfl := O9 h2
   have ei : inD bs u v (.int k) (.tuple [.int a, .int b]) c = (!anyB bs a b && ZH bs 26 (Qn u v (k - 1)) c) := rfl
   rw [ei, Bool.and_eq_true, Bool.not_eq_true'] at hh
   unfold awB at ha
   rw [Bool.and_eq_true, decide_eq_true_eq, decide_eq_true_eq] at ha
   obtain ⟨kd, uv⟩ := P5 ha.1 (VY hh.2) hh.1 ha.2
   exact ⟨_, k, _, _, rfl, by rw [uv, decide_eq_true rfl], by rw [uv, if_pos rfl]; exact kd⟩
  ·by_cases h3 : ds.length = 3
   ·obtain ⟨x, n, o, rfl⟩ := W7 h3
    have e : QO bs u v (.tuple [x, n, o]) = (awD u v n o && (isS x (Str.ofString "out") && outD bs u v n o)) := rfl
    rw [e, Bool.and_eq_true, Bool.and_eq_true] at h
    obtain ⟨h1, h2, hh⟩ := h
    obtain ⟨k, a, b, rfl, rfl, ha⟩ := Gp h1
    obtain rfl := O9 h2
    have ei : outD bs u v (.int k) (.tuple [.int a, .int b]) = (anyB bs a b && bs.all fun c => decide (k ≤ ZK c u v)) := rfl
    rw [ei, Bool.and_eq_true, List.all_eq_true] at hh
    unfold awB at ha
    rw [Bool.and_eq_true, decide_eq_true_eq, decide_eq_true_eq] at ha
    obtain ⟨kd, uv⟩ := Th ha.1 (fun c hc => of_decide_eq_true (hh.2 c hc)) hh.1 ha.2
    exact ⟨_, k, _, _, rfl, by rw [uv]; decide +kernel, by rw [uv, if_neg Bool.false_ne_true]; exact kd⟩
   ·rw [EM h3 h4] at h
    cases h
 | _ => cases h
theorem ZcE {l : List PyData} {r : Int} (P : PyData → Prop) (h0 : 0 ≤ r) (h1 : r < l.length) (hl : ∀ w ∈ l, P w) {Q : PyData → Prop} (k : ∀ w, P w → Q w) : Ku l r Q := by
 obtain ⟨j, rfl⟩ := Int.eq_ofNat_of_zero_le h0
 have hj : j < l.length := by omega
 exact JE (d := l[j]) (Vl (List.getElem?_eq_getElem hj)) (k _ (hl _ (List.getElem_mem hj)))
noncomputable def AllP (P : PyData → Prop) : List PyData → Prop
 | [] => True
 | a :: l => P a ∧ AllP P l
theorem AllP.mem {P : PyData → Prop} : ∀ {l : List PyData}, AllP P l → ∀ w ∈ l, P w
 | _ :: _, h, _, .head _ => h.1
 | _ :: _, h, _, .tail _ m => AllP.mem h.2 _ m
noncomputable def Sml (x : Int) : Prop := -100000000000000 ≤ x ∧ x ≤ 100000000000000
theorem Sml.lg {x : Int} (h : Sml x) : x.natAbs.log2 < 1920 := by
 unfold Sml at h
 exact Nat.lt_of_lt_of_le (XZ (k := 70) (by omega) (by decide)) (by decide)
noncomputable def Ppr.sm : Ppr → Prop
 | .inn n a b _ => Sml n ∧ Sml a ∧ Sml b
 | .out n a b => Sml n ∧ Sml a ∧ Sml b
theorem Zcp {bs : List B4} {u v : Int} {p : Ppr} (hB : ∀ c ∈ bs, Far c) (hu : Wth u ∧ Wth v) (h : Rgt bs u v p) : p.sm := by
 unfold Wth at hu
 have fin : ∀ n a b : Int, Z9 u v a b = n → n ≤ 40000000000000 → Sml n ∧ Sml a ∧ Sml b := fun n a b e hn => by
  have k := ZL.mp (Int.le_of_eq e)
  unfold Sml
  omega
 cases p with
 | inn n a b c =>
  obtain ⟨hd, ⟨_, e⟩, huv, _⟩ := h
  refine fin n a b e ?_
  have no : anyB bs 20000000000000 v = false := Bool.eq_false_iff.mpr fun z => by
   obtain ⟨c, mc, hc⟩ := QX z
   have := hB c mc
   rw [Zv] at hc
   unfold Far at this
   omega
  have m := hd.mn 20000000000000 v (by rw [huv, no]; exact Bool.false_ne_true)
  have : Z9 u v 20000000000000 v ≤ 40000000000000 := ZL.mpr (by omega)
  have := QU n
  omega
 | out n a b =>
  obtain ⟨hd, ⟨ha, e⟩, _⟩ := h
  obtain ⟨c, mc, hc⟩ := QX ha
  have F := hB c mc
  rw [Zv] at hc
  refine fin n a b e ?_
  rw [← e]
  exact ZL.mpr (by unfold Far at F; omega)
theorem OJ {pp : Ppr} (h : pp.ok) (k : pp.sm) : ∃ (ds : List PyData) (s : Str) (n a b : Int) (cs : List PyData), ppD pp = .tuple ds ∧ ds = .str s :: .int n :: .tuple [.int a, .int b] :: cs ∧ (Sml n ∧ Sml a) ∧ (PyData.str s).canLay0 = true ∧ (cs = [] ∨ ∃ c, cs = [c] ∧ Pap 26 c) ∧
  (DL.cutD ds none (some 3) = [.str s, .int n, .tuple [.int a, .int b]] ∧ DL.cutD ds (some 1) none = .int n :: .tuple [.int a, .int b] :: cs ∧ DL.cutD ds (some 2) none = .tuple [.int a, .int b] :: cs ∧ DL.cutD ds (some 3) none = cs) ∧ ds.length ≤ 4 := by
 cases pp with
 | inn n a b c => exact ⟨_, _, n, a, b, [cvD c], rfl, rfl, ⟨k.1, k.2.1⟩, Zw, .inr ⟨_, rfl, CP (Nat.le_succ_of_le h)⟩, ⟨rfl, rfl, rfl, rfl⟩, Nat.le_refl _⟩
 | out n a b => exact ⟨_, _, n, a, b, [], rfl, rfl, ⟨k.1, k.2.1⟩, Zw, .inl rfl, ⟨rfl, rfl, rfl, rfl⟩, Nat.le_succ _⟩
theorem PR {h x y : PyData} {cs : List PyData} (C : cs = [] ∨ ∃ c, cs = [c] ∧ Pap 26 c) (L : h.canLay0 = true) : Pps (.tuple (h :: x :: y :: cs)) := by
 rcases C with rfl | ⟨c, rfl, C⟩
 ·exact L
 ·exact ⟨L, C⟩
noncomputable def Xo : DSp := fun xs M Φ => on3 xs fun x y z => onO x fun p => onP y fun a b => onP z fun u v => Sml a ∧ Pen M p ∧ ∀ d M', Fr p M M' → Φ (.dat d) M'
theorem UX (xs : List DV) (M : Mp) (Φ : DK) : Xo xs M Φ = (on3 xs fun x y z => onO x fun p => onP y fun a b => onP z fun u v => Sml a ∧ Pen M p ∧ ∀ d M', Fr p M M' → Φ (.dat d) M') := propext Iff.rfl
noncomputable def Ls : DSp := fun xs M Φ => on4 xs fun x y z s => onO x fun p => Vj y fun bs => onP z fun u v => Zds s fun pp => (pp.sm ∧ 1 ≤ bs.length ∧ bs.length ≤ 6) ∧ Pen M p ∧ ∀ d M', Pps d → Fr p M M' → Φ (.dat d) M'
theorem NV (xs : List DV) (M : Mp) (Φ : DK) : Ls xs M Φ = (on4 xs fun x y z s => onO x fun p => Vj y fun bs => onP z fun u v => Zds s fun pp => (pp.sm ∧ 1 ≤ bs.length ∧ bs.length ≤ 6) ∧ Pen M p ∧ ∀ d M', Pps d → Fr p M M' → Φ (.dat d) M') := propext Iff.rfl
noncomputable def Xb : DSp := fun xs M Φ => on5 xs fun x y z s v => Vj x fun bs => GN z fun t ox oy => onP s fun a b => onD v fun d => Zbt y M fun bs0 => ((Frm t ox oy ∧ Grd 6 bs0) ∧ Pps d ∧ bs = bs0.map (VJ t ox oy)) ∧ ∀ M', Ext M M' → Φ (.dat (.bool true)) M'
theorem Gz (xs : List DV) (M : Mp) (Φ : DK) : Xb xs M Φ = (on5 xs fun x y z s v => Vj x fun bs => GN z fun t ox oy => onP s fun a b => onD v fun d => Zbt y M fun bs0 => ((Frm t ox oy ∧ Grd 6 bs0) ∧ Pps d ∧ bs = bs0.map (VJ t ox oy)) ∧ ∀ M', Ext M M' → Φ (.dat (.bool true)) M') := propext Iff.rfl
theorem OU {pp : Ppr} (h : pp.ok) : Pps (ppD pp) := by
 cases pp with
 | inn n a b c => exact ⟨Zw, CP (Nat.le_succ_of_le h)⟩
 | out n a b => exact Zw
local macro_rules | `(tactic| walk_at "rk") => `(tactic| try simp (config := { maxSteps := 10000000 }) only [↓MX, ↓Oq, ↓L5, ↓Oz, ↓Oa, ↓NJ, ↓Oj, ↓Ho, ↓EE, ↓S3, ↓RQ, ↓P7, ↓RC, ↓P4, ↓Nj, ↓LX, ↓NN, ↓LP, ↓N0, ↓N9, ↓NC, ↓Nf, ↓OE, ↓Ol, ↓Me, ↓NG, ↓L3, ↓NQ, ↓Fd, ↓Zcx, ↓Zfc, ↓Zc1, ↓Zd3, ↓ZfG, ↓OQ, ↓ZbV, ↓Zc6, ↓ZaA, ↓R8, ↓Su, ↓Zd5, ↓ZaX, ↓ZdJ, ↓Zbs, ↓Zcg, ↓P9, ↓Zcc, ↓Zar, ↓Sl, ↓ZbU, ↓Nn, ↓MB, ↓ML, ↓Mz, ↓LR, ↓Zaw, ↓ZdP, ↓R9, ↓NZ, ↓Rm, ↓Zb3, ↓Eg, ↓Dm, ↓OM, ↓LY, ↓NS, ↓Zck, ↓Za4, ↓FQ, ↓SR, ↓ZbT, ↓So, ↓ZbR, ↓R0, ↓ZcA, ↓Zb5, ↓Y1, ↓Dv, ↓B5, ↓Mv, ↓MV, ↓S4, ↓Sh, ↓Za1, ↓HR, ↓Sy, ↓Sx, ↓L4, ↓Od, ↓SE, ↓Nm, ↓T7, ↓Zaj, ↓RF, ↓Mc, ↓Oh, ↓SW, ↓Zcn, ↓MW, ↓MF, ↓Zbz, ↓Lz, ↓RA, ↓Sb, ↓ZbK, ↓Hr, ↓N4, ↓MS, ↓CN, ↓Cg, ↓Hd, ↓Ss, ↓NW, ↓PY, ↓SV, ↓MO, ↓ZbS, ↓HF, FR, Hh, MQ, OI, NX, Eu, XH, Fb, ZdI, NK, ZaO, Pt, O2, Pl, ZaT, isNone_none, B7, DM, DJ, G6, UM, BI,
 Option.bind_some, Option.bind_none, Option.join_some, Option.join_none, Option.getD_some, Option.map_some, Option.map_none, List.getElem?_cons_zero, List.getElem?_cons_succ, List.set_cons_zero, List.set_cons_succ, List.map_cons, List.map_nil, List.length_cons, List.length_nil, List.replicate, List.cons_append, List.nil_append, List.any_cons, List.any_nil,
 ZU, Fm, ↓reduceIte, Bool.not_true, Bool.not_false, Bool.or_false, Bool.or_true, Bool.true_or, Bool.false_or, Bool.and_true, Bool.and_false, Bool.true_and, Bool.false_and, Bool.bne_true, Bool.bne_false, Bool.false_eq_true, eq_self, true_and, and_true, Zbw, Za0, Tv, exists_eq_left', exists_eq_left, Option.some.injEq, Nat.reduceAdd, Nat.reduceSub, Nat.zero_add, Nat.reduceLT, Nat.reduceLeDiff, Int.reduceToNat, Int.reducePow, Int.reduceSub, Int.reduceMul, Int.reduceAdd, Int.reduceNeg,
 Int.reduceLT, Int.reduceLE, Int.reduceEq, Int.zero_add, Int.cast_ofNat_Int, decide_true, decide_false, sizeLine_eq, RV, ND, Zbp, Zbx, ZdG, Zdy, ZdY, ZdB, Zdq, Zcz, G8, Ca, Dn, DX, Cb, GB, G7, GI, GG, BY, BF, U8, Uo, UU, WT, WL, Gb, GF, WI, Wc, WX, Gv, UP, GO, BP, UO, Us, GD, GX, BR, D7, Dx, Bi, UK, BK, UH, GA, GS, GR, Gf, Um, Gm, ↓MK, ↓Nd, ↓Mx, ↓ME, SJ, RY, ↓RI, ↓SG, ↓Bf, ↓ZbY, ↓Nt, ↓Lr, ↓Dz, ↓Ea, ↓Rk, ↓OK, ↓MH, ↓FW, ↓Mh, ↓Hi, ↓EW, ↓GU, ↓Zdf, ↓Dy, ↓Zbu, ↓Zak, ↓R3, ↓L6, ↓Li, ↓D8, ↓ET, ↓ZdK, ↓Zcj, ↓Cg, ↓UJ, ↓GV, ↓DR, ↓EG, ↓GP, ↓Nx, ↓N3, RN, ↓Hl, ↓OG, ↓Rq, ↓Dq, ↓N5, ↓FL, ↓LV, ↓Nw, ↓EF, ↓T8, ↓Lj, ↓LF, ↓EN, ↓Ma, ↓Ei, ↓Oo, ↓Dh, ↓Ej, ↓UX, ↓NV, ↓FU, ↓CN, ↓Gz])
theorem U6 (T : Tx K mg) : ZE P w K mg base CX0 1 T.YA T.Yo ["box"] (lift K Sa) := by
 refine okD T.Vx.F Gu (fun xs M Φ h => by obtain ⟨_, rfl, _⟩ := Qa h; rfl) fun cdv A outer s H E hr => ⟨_, (Zi (Zn (QI (JP Yv (Zg (Zg (Zb 0) Zc) Zc) (Zg (Zg (Zb 0) Zc) Zc)) (JK (JP Yv (Zg (Zg (Zb 0) Zc) Zc) (Zg (Zg (Zb 0) Zc) Zc)))))), fun xs M Φ h => ?_⟩
 replace h := Qa h
 obtain ⟨x1, rfl, h⟩ := h
 replace h := ZY h
 obtain ⟨b, rfl, h⟩ := h
 walk_at "rk"
 refine Zl (fun h1 => ?_) (fun h1 => ?_)
 ·unfold okB at h
  simpa [h1] using h
 ·unfold okB at h
  simpa [h1] using h
theorem Zce (T : Tx K mg) : ZE P w K mg base CX0 1 T.Rf T.PX ["one", "other", "way"] (lift K RX) := by
 refine okD T.BL.F TU (fun xs M Φ h => by obtain ⟨_, _, _, rfl, _⟩ := ZS h; rfl) fun cdv A outer s H E hr => ⟨_, (Zi (Zn (Zj (Fl rfl) rfl T.XQ VH (Za Zc (Za (Zm ZI (Zg (Zg (Zb 1) Zc) (Zb 2)) (Zg (Zg (Zb 0) Zc) (Zb 2))) (Za (Zm ZI (Zg (Zg (Zb 0) Zc) (Zb 2)) (Zg (Zg (Zb 1) Zc) (Zb 2))) Zd)))))), fun xs M Φ h => ?_⟩
 replace h := ZS h
 obtain ⟨x1, x2, x3, rfl, h⟩ := h
 replace h := ZY h
 obtain ⟨a, rfl, h⟩ := h
 replace h := ZY h
 obtain ⟨b, rfl, h⟩ := h
 replace h := ZO h
 obtain ⟨i, rfl, hi, h⟩ := h
 rcases hi with rfl | rfl
 ·walk_at "rk"
  exact h
 ·walk_at "rk"
  exact h
theorem QJ (T : Tx K mg) : ZE P w K mg base CX0 2 T.Z8 T.Z6 ["one", "other"] (lift K Vh) := by
 have G_gap : ZE P w K mg base CX0 1 T.Rf T.PX ["one", "other", "way"] (lift K RX) := Zce T
 refine okD T.Zx.F XR (fun xs M Φ h => by obtain ⟨_, _, rfl, _⟩ := Zz h; rfl) fun cdv A outer s H E hr => ⟨_, (Zi (Zn (Zj (VX rfl) rfl T.XQ VH (Za (Zh G_gap (hr.mono (by first | decide | omega)) rfl T.BL.m T.BL.F.kp T.BL.b Zs (Za (Zb 0) (Za (Zb 1) (Za Zc Zd)))) (Za (Zh G_gap (hr.mono (by first | decide | omega)) rfl T.BL.m T.BL.F.kp T.BL.b Zs (Za (Zb 0) (Za (Zb 1) (Za Zc Zd)))) Zd))))), fun xs M Φ h => ?_⟩
 replace h := Zz h
 obtain ⟨x1, x2, rfl, h⟩ := h
 replace h := ZY h
 obtain ⟨a, rfl, h⟩ := h
 replace h := ZY h
 obtain ⟨b, rfl, h⟩ := h
 walk_at "rk"
 exact ⟨.inl trivial, .inr trivial, h⟩
theorem YC (T : Tx K mg) : ZE P w K mg base CX0 3 T.Ve T.Vb ["box", "spot"] (lift K ZaU) := by
 have G_steps_between : ZE P w K mg base CX0 2 T.Z8 T.Z6 ["one", "other"] (lift K Vh) := QJ T
 refine okD T.Qj.F BM (fun xs M Φ h => by obtain ⟨_, _, rfl, _⟩ := Zz h; rfl) fun cdv A outer s H E hr => ⟨_, (Zi (Zn (Zh G_steps_between (hr.mono (by first | decide | omega)) rfl T.Zx.m T.Zx.F.kp T.Zx.b Zs (Za (Zb 0) (Za (Zk (Za (Zb 1) (Za (Zb 1) Zd))) Zd))))), fun xs M Φ h => ?_⟩
 replace h := Zz h
 obtain ⟨x1, x2, rfl, h⟩ := h
 replace h := ZY h
 obtain ⟨a, rfl, h⟩ := h
 replace h := Qt h
 obtain ⟨u, v, rfl, h⟩ := h
 walk_at "rk"
 exact h
theorem PF (T : Tx K mg) : ZE P w K mg base CX0 4 T.Nq T.Ob ["box", "spot"] (lift K Co) := by
 have G_steps_to : ZE P w K mg base CX0 3 T.Ve T.Vb ["box", "spot"] (lift K ZaU) := YC T
 refine okD T.Wd.F Zae (fun xs M Φ h => by obtain ⟨_, _, rfl, _⟩ := Zz h; rfl) fun cdv A outer s H E hr => ⟨_, (Zi (Zn (JP (Q6 hr) (Zh G_steps_to (hr.mono (by first | decide | omega)) rfl T.Qj.m T.Qj.F.kp T.Qj.b Zs (Za (Zb 0) (Za (Zb 1) Zd))) Zc))), fun xs M Φ h => ?_⟩
 replace h := Zz h
 obtain ⟨x1, x2, rfl, h⟩ := h
 replace h := ZY h
 obtain ⟨a, rfl, h⟩ := h
 replace h := Qt h
 obtain ⟨u, v, rfl, h⟩ := h
 walk_at "rk"
 rw [NL]
 exact h
theorem GH (T : Tx K mg) : ZE P w K mg base CX0 1 T.XX T.XY ["one", "other"] (lift K X0) := by
 refine okD T.Vz.F K5 (fun xs M Φ h => by obtain ⟨_, _, rfl, _⟩ := Zz h; rfl) fun cdv A outer s H E hr => ⟨_, (Ze (Zr 2 K5.nd (Zk (Za (Zj (VX rfl) rfl T.XQ VH (Za (Zg (Zg (Zb 0) Zc) Zc) (Za (Zg (Zg (Zb 1) Zc) Zc) Zd))) (Za (Zj (VX rfl) rfl T.XQ VH (Za (Zg (Zg (Zb 0) Zc) Zc) (Za (Zg (Zg (Zb 1) Zc) Zc) Zd))) Zd))))
 (Ze (Zr 3 K5.nd (Zk (Za (Zj (Yk rfl) rfl T.Xh Vf (Za (Zg (Zg (Zb 0) Zc) Zc) (Za (Zg (Zg (Zb 1) Zc) Zc) Zd))) (Za (Zj (Yk rfl) rfl T.Xh Vf (Za (Zg (Zg (Zb 0) Zc) Zc) (Za (Zg (Zg (Zb 1) Zc) Zc) Zd))) Zd))))
 (Zi (Zn (Zk (Za (Zb 2) (Za (Zb 3) Zd))))))), fun xs M Φ h => ?_⟩
 replace h := Zz h
 obtain ⟨x1, x2, rfl, h⟩ := h
 replace h := ZY h
 obtain ⟨a, rfl, h⟩ := h
 replace h := ZY h
 obtain ⟨b, rfl, h⟩ := h
 walk_at "hd"
 walk_at "rk"
 walk_at "hd"
 walk_at "rk"
 subst_vars
 walk_at "rk"
 exact h
theorem X8 (T : Tx K mg) : ZE P w K mg base CX0 1 T.Y6 T.YE ["spot", "r"] (lift K YY) := by
 refine okD T.Jd.F HY (fun xs M Φ h => by obtain ⟨_, _, rfl, _⟩ := Zz h; rfl) fun cdv A outer s H E hr => ⟨_, (Zi (Zn (Zk (Za (Zk (Za (Zm ZI (Zg (Zb 0) Zc) (Zb 1)) (Za (Zm ZI (Zg (Zb 0) Zc) (Zb 1)) Zd))) (Za (Zk (Za (Zm Zy (Zg (Zb 0) Zc) (Zb 1)) (Za (Zm Zy (Zg (Zb 0) Zc) (Zb 1)) Zd))) Zd))))), fun xs M Φ h => ?_⟩
 replace h := Zz h
 obtain ⟨x1, x2, rfl, h⟩ := h
 replace h := Qt h
 obtain ⟨u, v, rfl, h⟩ := h
 replace h := ZO h
 obtain ⟨r, rfl, h⟩ := h
 walk_at "rk"
 exact h
theorem Ov (T : Tx K mg) : ZE P w K mg base CX0 1 T.Bg T.BN ["one", "other"] (lift K Bp) := by
 refine okD T.o_steps.F N2 (fun xs M Φ h => by obtain ⟨_, _, rfl, _⟩ := Zz h; rfl) fun cdv A outer s H E hr => ⟨_, (Zi (Zn (Zj (VX rfl) rfl T.XQ VH (Za (Zj Wy rfl T.Ec Ww (Za (Zm ZI (Zg (Zb 0) Zc) (Zg (Zb 1) Zc)) Zd)) (Za (Zj Wy rfl T.Ec Ww (Za (Zm ZI (Zg (Zb 0) Zc) (Zg (Zb 1) Zc)) Zd)) Zd))))), fun xs M Φ h => ?_⟩
 replace h := Zz h
 obtain ⟨x1, x2, rfl, h⟩ := h
 replace h := Qt h
 obtain ⟨a, b, rfl, h⟩ := h
 replace h := Qt h
 obtain ⟨u, v, rfl, h⟩ := h
 walk_at "rk"
 exact h
theorem Dw (T : Tx K mg) : ZE P w K mg base CX0 3 T.Kn T.X4 ["one", "other"] (lift K P1) := by
 have G_common : ZE P w K mg base CX0 1 T.XX T.XY ["one", "other"] (lift K X0) := GH T
 have G_steps_between : ZE P w K mg base CX0 2 T.Z8 T.Z6 ["one", "other"] (lift K Vh) := QJ T
 have G_has_spots : ZE P w K mg base CX0 1 T.YA T.Yo ["box"] (lift K Sa) := U6 T
 refine okD T.YW.F JD (fun xs M Φ h => by obtain ⟨_, _, rfl, _⟩ := Zz h; rfl) fun cdv A outer s H E hr => ⟨_, (Ze (Qf (ZF R1 (Zh G_steps_between (hr.mono (by first | decide | omega)) rfl T.Zx.m T.Zx.F.kp T.Zx.b Zs (Za (Zb 0) (Za (Zb 1) Zd))) Zc) (Zi (Zn (Q0 (Za (Zb 0) Zd)))) ZC)
 (Ze (Zr 2 JD.nd (Zh G_common (hr.mono (by first | decide | omega)) rfl T.Vz.m T.Vz.F.kp T.Vz.b Zs (Za (Zb 0) (Za (Zb 1) Zd))))
 (Ze (Zr 3 JD.nd (Zk (Za (Zg (Zb 0) Zc) (Za (Zk (Za (Zm ZI (Zg (Zg (Zb 2) Zc) Zc) Zc) (Za (Zg (Zg (Zb 0) Zc) Zc) Zd))) Zd))))
 (Ze (Zr 4 JD.nd (Zk (Za (Zk (Za (Zm Zy (Zg (Zg (Zb 2) Zc) Zc) Zc) (Za (Zg (Zg (Zb 0) Zc) Zc) Zd))) (Za (Zg (Zb 0) Zc) Zd))))
 (Ze (Zr 5 JD.nd (Zk (Za (Zk (Za (Zg (Zg (Zb 2) Zc) Zc) (Za (Zg (Zg (Zb 0) Zc) Zc) Zd))) (Za (Zk (Za (Zg (Zg (Zb 2) Zc) Zc) (Za (Zm ZI (Zg (Zg (Zb 2) Zc) Zc) Zc) Zd))) Zd))))
 (Ze (Zr 6 JD.nd (Zk (Za (Zk (Za (Zg (Zg (Zb 2) Zc) Zc) (Za (Zm Zy (Zg (Zg (Zb 2) Zc) Zc) Zc) Zd))) (Za (Zk (Za (Zg (Zg (Zb 2) Zc) Zc) (Za (Zg (Zg (Zb 0) Zc) Zc) Zd))) Zd))))
 (Zi (Zn (Q2 true (ZQ (sc := Zf JN) (XN := ["one", "other", "middle", "left", "right", "below", "above"]) (N := ["piece"]) (ix := [none]) rfl rfl (by decide +kernel)) (Yq (Qb (Za (Zb 3) (Za (Zb 4) (Za (Zb 5) (Za (Zb 6) Zd)))))) (fun C ex s H => (Zo 0 (show List.Nodup (["piece"] : List Str) by decide +kernel))) (fun C ex s H => (BZ (QE (Zh G_has_spots (hr.mono (by first | decide | omega)) rfl T.Vx.m T.Vx.F.kp T.Vx.b Zs (Za (Zb 0) Zd))))) (fun C ex s H => (Zb 0)) rfl))))))))), fun xs M Φ h => ?_⟩
 replace h := Zz h
 obtain ⟨x1, x2, rfl, h⟩ := h
 replace h := ZY h
 obtain ⟨a, rfl, h⟩ := h
 replace h := ZY h
 obtain ⟨b, rfl, h⟩ := h
 walk_at "hd"
 walk_at "rk"
 refine Zl (fun hk => ?_) (fun hk => ?_)
 ·intro p hp
  have h' := h p hp
  rw [show Wb a b = [a] from if_pos hk] at h'
  exact h'
 ·have ec : Wb a b = (Er a b).filter okB := if_neg hk
  walk_at "hd"
  walk_at "rk"
  walk_at "hd"
  walk_at "rk"
  walk_at "hd"
  walk_at "rk"
  walk_at "hd"
  walk_at "rk"
  walk_at "hd"
  walk_at "rk"
  subst_vars
  walk_at "rk"
  refine ⟨fun i acc M' => acc = (((Er a b).take i).filter okB).map bD ∧ M' = M, ⟨rfl, rfl⟩, ?_, ?_⟩
  ·rintro i d acc M' hd ⟨rfl, rfl⟩
   have hd' : ((Er a b).map bD)[i]? = some d := hd
   obtain ⟨q, eq, rfl⟩ := Qe hd'
   walk_at "rk"
   rw [Yt okB eq, List.map_append]
   cases okB q with
   | true => rfl
   | false => simp
  ·rintro acc M' ⟨rfl, rfl⟩
   rw [ec] at h
   exact h
theorem XM (T : Tx K mg) : ZE P w K mg base CX0 4 T.Vy T.Vr ["box", "others"] (lift K Cu) := by
 have G_cut_out : ZE P w K mg base CX0 3 T.Kn T.X4 ["one", "other"] (lift K P1) := Dw T
 refine okD T.QK.F QP (fun xs M Φ h => by obtain ⟨_, _, rfl, _⟩ := Zz h; rfl) fun cdv A outer s H E hr => ⟨_, (Ze (Zr 2 QP.nd (Qb (Za (Zb 0) Zd)))
 (Ze (G9 (Zb 1) (Zo 3 QP.nd) (Ze (Zr 4 QP.nd (Q0 Zd))
 (Ze (Ub (Zb 2) (Zo 5 QP.nd) (Zi (J6 (U9 (Zb 4) (Zh G_cut_out (hr.mono (by first | decide | omega)) rfl T.YW.m T.YW.F.kp T.YW.b Zs (Za (Zb 5) (Za (Zb 3) Zd)))))) PassesOwn.never rfl)
 (Zi (Zr 2 QP.nd (CM (Zb 4)))))) PassesOwn.never rfl)
 (Zi (Zn (Zb 2))))), fun xs M Φ h => ?_⟩
 replace h := Zz h
 obtain ⟨x1, x2, rfl, h⟩ := h
 replace h := ZY h
 obtain ⟨a, rfl, h⟩ := h
 replace h := Z0 h
 obtain ⟨bs, rfl, hl, h⟩ := h
 walk_at "hd"
 walk_at "rk"
 walk_at "hd"
 walk_at "rk"
 refine ⟨fun i Δ M' => ∃ k3 k4 k5, Δ = [some (.dat (bD a)), some (.dat (.tuple (bs.map bD))), some (.dat (.list ((Jg a (bs.take i)).map bD))), k3, k4, k5] ∧ M' = M, ⟨none, none, none, rfl, rfl⟩, ?_, ?_⟩
 ·rintro i d Δ M' hd ⟨k3, k4, k5, rfl, rfl⟩
  obtain ⟨b, eb, rfl⟩ := Qe hd
  have len := Ko a (bs.take i) (by rw [List.length_take]; omega)
  walk_at "rk"
  intro q hq
  refine ⟨fun j Δ M2 => ∃ k5, Δ = [some (.dat (bD a)), some (.dat (.tuple (bs.map bD))), some (.dat (.list ((Jg a (bs.take i)).map bD))), some (.dat (bD b)), some (.own q), k5] ∧ M2 = Z3 M' q (.lst ((((Jg a (bs.take i)).take j).flatMap fun p => Wb p b).map bD)), ⟨k5, rfl, rfl⟩, ?_, ?_⟩
  ·rintro j d Δ M2 hd2 ⟨k5, rfl, rfl⟩
   obtain ⟨p, ep, rfl⟩ := Qe hd2
   walk_at "rk"
   intro c hc
   have hne := fresh_ne hc
   simp only [Qm (Ne.symm hne)]
   walk_at "rk"
   refine ⟨hne, ?_, _, rfl, ?_⟩
   ·have h1 := X1 (fun p => Wb p b) 4 ((Jg a (bs.take i)).take j) fun p _ => Uw p b
    have h2 := Uw p b
    rw [List.length_take] at h1
    rw [List.length_map, List.length_map]
    omega
   ·rw [Ly hc, ← List.map_append, FA (fun p => Wb p b) ep]
  ·rintro Δ M2 ⟨k5, rfl, rfl⟩
   rw [List.length_map, List.take_length]
   walk_at "rk"
   exact ⟨_, _, _, by rw [Ee eb], YV hq⟩
 ·rintro Δ M' ⟨k3, k4, k5, rfl, rfl⟩
  rw [List.length_map, List.take_length]
  subst_vars
  walk_at "rk"
  exact h
theorem XB (T : Tx K mg) : ZE P w K mg base CX0 5 T.VP T.VW ["shape", "spot"] (lift K GL) := by
 have G_has : ZE P w K mg base CX0 4 T.Nq T.Ob ["box", "spot"] (lift K Co) := PF T
 refine okD T.Z5.F DB (fun xs M Φ h => by obtain ⟨_, _, rfl, _⟩ := Zz h; rfl) fun cdv A outer s H E hr => ⟨_, (Zi (Zn (Zj (Zbf rfl) rfl T.Zc8 TL (Za (Q2 false (ZQ (sc := Zf JG) (XN := ["shape", "spot"]) (N := ["box", "spot"]) (ix := [none, some 1]) rfl rfl (by decide +kernel)) (X9 (Zb 0)) (fun C ex s H => (Zo 0 (show List.Nodup (["box", "spot"] : List Str) by decide +kernel))) (fun C ex s H => Q1) (fun C ex s H => (Zh G_has (hr.mono (by first | decide | omega)) rfl T.Wd.m T.Wd.F.kp T.Wd.b Zs (Za (Zb 0) (Za (Zb 1) Zd)))) rfl) Zd)))), fun xs M Φ h => ?_⟩
 replace h := Zz h
 obtain ⟨x1, x2, rfl, h⟩ := h
 replace h := Z0 h
 obtain ⟨bs, rfl, h⟩ := h
 replace h := Qt h
 obtain ⟨u, v, rfl, hl, h⟩ := h
 walk_at "rk"
 refine ⟨by rw [List.length_map]; omega, fun i acc M' => acc = ((bs.take i).map fun b => hasB b u v).map PyData.bool ∧ M' = M, ⟨rfl, rfl⟩, ?_, ?_⟩
 ·rintro i d acc M' hd ⟨rfl, rfl⟩
  obtain ⟨b, eb, rfl⟩ := Qe hd
  walk_at "rk"
  rw [← take_snoc _ eb, List.map_append]
  rfl
 ·rintro acc M' ⟨rfl, rfl⟩
  refine ⟨_, rfl, ?_⟩
  rw [List.length_map, List.take_length, List.any_map]
  exact h
theorem LW (T : Tx K mg) : ZE P w K mg base CX0 1 T.G4 T.Bx ["shape"] (lift K BO) := by
 refine okD T.UD.F Ur (fun xs M Φ h => by obtain ⟨_, rfl, _⟩ := Qa h; rfl) fun cdv A outer s H E hr => ⟨_, (Ze (Zr 1 Ur.nd (Zk (Za (Zm ZI (Zj (Uc rfl) rfl T.Xh Vf (Za (Q2 false (ZQ (sc := Zf J2) (XN := ["shape", "low", "high"]) (N := ["box"]) (ix := [none]) rfl rfl (by decide +kernel)) (X9 (Zb 0)) (fun C ex s H => (Zo 0 (show List.Nodup (["box"] : List Str) by decide +kernel))) (fun C ex s H => Q1) (fun C ex s H => (Zg (Zg (Zb 0) Zc) Zc)) rfl) Zd)) Zc) (Za (Zm ZI (Zj (Uc rfl) rfl T.Xh Vf (Za (Q2 false (ZQ (sc := Zf J2) (XN := ["shape", "low", "high"]) (N := ["box"]) (ix := [none]) rfl rfl (by decide +kernel)) (X9 (Zb 0)) (fun C ex s H => (Zo 0 (show List.Nodup (["box"] : List Str) by decide +kernel))) (fun C ex s H => Q1) (fun C ex s H => (Zg (Zg (Zb 0) Zc) Zc)) rfl) Zd)) Zc) Zd))))
 (Ze (Zr 2 Ur.nd (Zk (Za (Zm Zy (Zj (FP rfl) rfl T.XQ VH (Za (Q2 false (ZQ (sc := Zf J2) (XN := ["shape", "low", "high"]) (N := ["box"]) (ix := [none]) rfl rfl (by decide +kernel)) (X9 (Zb 0)) (fun C ex s H => (Zo 0 (show List.Nodup (["box"] : List Str) by decide +kernel))) (fun C ex s H => Q1) (fun C ex s H => (Zg (Zg (Zb 0) Zc) Zc)) rfl) Zd)) Zc) (Za (Zm Zy (Zj (FP rfl) rfl T.XQ VH (Za (Q2 false (ZQ (sc := Zf J2) (XN := ["shape", "low", "high"]) (N := ["box"]) (ix := [none]) rfl rfl (by decide +kernel)) (X9 (Zb 0)) (fun C ex s H => (Zo 0 (show List.Nodup (["box"] : List Str) by decide +kernel))) (fun C ex s H => Q1) (fun C ex s H => (Zg (Zg (Zb 0) Zc) Zc)) rfl) Zd)) Zc) Zd))))
 (Zi (Zn (Zk (Za (Zb 1) (Za (Zb 2) Zd))))))), fun xs M Φ h => ?_⟩
 replace h := Qa h
 obtain ⟨x1, rfl, h⟩ := h
 replace h := Z0 h
 obtain ⟨bs, rfl, ⟨h1, h2⟩, h⟩ := h
 walk_at "hd"
 walk_at "rk"
 refine ⟨by rw [List.length_map]; omega, fun i acc M' => acc = ((bs.take i).map B4.x).map PyData.int ∧ M' = M, ⟨rfl, rfl⟩, ?_, ?_⟩
 ·rintro i d acc M' hd ⟨rfl, rfl⟩
  obtain ⟨b, eb, rfl⟩ := Qe hd
  walk_at "rk"
  rw [← take_snoc _ eb, List.map_append]
  rfl
 ·rintro acc M1 ⟨rfl, rfl⟩
  rw [List.length_map, List.take_length]
  refine ⟨_, .inl rfl, by rw [List.length_map]; omega, fun mx hmx nx => ⟨by omega, fun i acc M' => acc = ((bs.take i).map B4.y).map PyData.int ∧ M' = M1, ⟨rfl, rfl⟩, ?_, ?_⟩⟩
  ·rintro i d acc M' hd ⟨rfl, rfl⟩
   obtain ⟨b, eb, rfl⟩ := Qe hd
   walk_at "rk"
   rw [← take_snoc _ eb, List.map_append]
   rfl
  ·rintro acc M2 ⟨rfl, rfl⟩
   rw [List.take_length]
   refine ⟨_, .inl rfl, by rw [List.length_map]; omega, fun my hmy ny => ?_⟩
   walk_at "hd"
   walk_at "rk"
   refine ⟨by rw [List.length_map]; omega, fun i acc M' => acc = ((bs.take i).map B4.X).map PyData.int ∧ M' = M2, ⟨rfl, rfl⟩, ?_, ?_⟩
   ·rintro i d acc M' hd ⟨rfl, rfl⟩
    obtain ⟨b, eb, rfl⟩ := Qe hd
    walk_at "rk"
    rw [← take_snoc _ eb, List.map_append]
    rfl
   ·rintro acc M3 ⟨rfl, rfl⟩
    rw [List.length_map, List.take_length]
    refine ⟨_, .inl rfl, by rw [List.length_map]; omega, fun mX hmX nX => ⟨by omega, fun i acc M' => acc = ((bs.take i).map B4.Y).map PyData.int ∧ M' = M3, ⟨rfl, rfl⟩, ?_, ?_⟩⟩
    ·rintro i d acc M' hd ⟨rfl, rfl⟩
     obtain ⟨b, eb, rfl⟩ := Qe hd
     walk_at "rk"
     rw [← take_snoc _ eb, List.map_append]
     rfl
    ·rintro acc M4 ⟨rfl, rfl⟩
     rw [List.take_length]
     refine ⟨_, .inl rfl, by rw [List.length_map]; omega, fun mY hmY nY => ?_⟩
     subst_vars
     walk_at "rk"
     refine h ⟨mx - 1, my - 1, mX + 1, mY + 1⟩ fun b hb => ?_
     have q1 := nx b.x (List.mem_map.mpr ⟨b, hb, rfl⟩)
     have q2 := ny b.y (List.mem_map.mpr ⟨b, hb, rfl⟩)
     have q3 := nX b.X (List.mem_map.mpr ⟨b, hb, rfl⟩)
     have q4 := nY b.Y (List.mem_map.mpr ⟨b, hb, rfl⟩)
     dsimp only
     omega
theorem YT (T : Tx K mg) : ZE P w K mg base CX0 4 T.JX T.JS ["pieces", "spot"] (lift K C8) := by
 have G_steps_to : ZE P w K mg base CX0 3 T.Ve T.Vb ["box", "spot"] (lift K ZaU) := YC T
 refine okD T.Qs.F Uu (fun xs M Φ h => by obtain ⟨_, _, rfl, _⟩ := Zz h; rfl) fun cdv A outer s H E hr => ⟨_, (Zi (Zn (Zj (Uc rfl) rfl T.Xh Vf (Za (Q2 false (ZQ (sc := Zf Qu) (XN := ["pieces", "spot"]) (N := ["piece", "spot"]) (ix := [none, some 1]) rfl rfl (by decide +kernel)) (Yq (Zb 0)) (fun C ex s H => (Zo 0 (show List.Nodup (["piece", "spot"] : List Str) by decide +kernel))) (fun C ex s H => Q1) (fun C ex s H => (Zh G_steps_to (hr.mono (by first | decide | omega)) rfl T.Qj.m T.Qj.F.kp T.Qj.b Zs (Za (Zb 0) (Za (Zb 1) Zd)))) rfl) Zd)))), fun xs M Φ h => ?_⟩
 replace h := Zz h
 obtain ⟨x1, x2, rfl, h⟩ := h
 replace h := Be h
 obtain ⟨ps, rfl, h⟩ := h
 replace h := Qt h
 obtain ⟨u, v, rfl, ⟨h1, h2⟩, h⟩ := h
 walk_at "rk"
 refine ⟨by rw [List.length_map]; omega, fun i acc M' => acc = ((ps.take i).map fun p => ZK p u v).map PyData.int ∧ M' = M, ⟨rfl, rfl⟩, ?_, ?_⟩
 ·rintro i d acc M' hd ⟨rfl, rfl⟩
  obtain ⟨b, eb, rfl⟩ := Qe hd
  walk_at "rk"
  rw [← take_snoc _ eb, List.map_append]
  rfl
 ·rintro acc M1 ⟨rfl, rfl⟩
  rw [List.length_map, List.take_length]
  have hl : 0 < ps.length := List.length_pos_iff.mpr h1
  refine ⟨_, .inl rfl, by rw [List.length_map]; exact hl, fun m hm hn => h m ?_ fun p hp => hn _ (List.mem_map.mpr ⟨p, hp, rfl⟩)⟩
  obtain ⟨p, mp, e⟩ := List.mem_map.mp hm
  exact ⟨p, mp, e⟩
theorem YM (T : Tx K mg) : ZE P w K mg base CX0 6 T.JT T.JV ["shape", "spot"] (lift K W2) := by
 have G_lies_in : ZE P w K mg base CX0 5 T.VP T.VW ["shape", "spot"] (lift K GL) := XB T
 have G_left_over : ZE P w K mg base CX0 4 T.Vy T.Vr ["box", "others"] (lift K Cu) := XM T
 have G_frame : ZE P w K mg base CX0 1 T.G4 T.Bx ["shape"] (lift K BO) := LW T
 refine okD T.Qv.F UB (fun xs M Φ h => by obtain ⟨_, _, rfl, _⟩ := Zz h; rfl) fun cdv A outer s H E hr => ⟨_, (Ze (Qf (QE (Zh G_lies_in (hr.mono (by first | decide | omega)) rfl T.Z5.m T.Z5.F.kp T.Z5.b Zs (Za (Zb 0) (Za (Zb 1) Zd)))) (Zi (Zn (Zh G_left_over (hr.mono (by first | decide | omega)) rfl T.QK.m T.QK.F.kp T.QK.b Zs (Za (Zh G_frame (hr.mono (by first | decide | omega)) rfl T.UD.m T.UD.F.kp T.UD.b Zs (Za (Zb 0) Zd)) (Za (Zb 0) Zd))))) ZC)
 (Zi (Zn (Qq U7 rfl T.Pe FC (Za (Zb 0) Zd))))), fun xs M Φ h => ?_⟩
 replace h := Zz h
 obtain ⟨x1, x2, rfl, h⟩ := h
 replace h := Z0 h
 obtain ⟨bs, rfl, h⟩ := h
 replace h := Qt h
 obtain ⟨u, v, rfl, ⟨h1, h2, hb⟩, h⟩ := h
 walk_at "rk"
 refine ⟨h2, Pu (fun q => ⟨⟨h1, h2⟩, fun fr hf => ?_⟩) fun q => ?_⟩
 ·exact ⟨h2, h _ (Ht hb hf q) (fun m z => Rr hb hf q z) (Ko _ _ h2)⟩
 ·exact h bs (DN hb (fun z => by rw [z] at h1; exact absurd h1 (by decide)) q) (fun m _ => Ml q) (by omega)
theorem NA (T : Tx K mg) : ZE P w K mg base CX0 7 T.BV T.B0 ["shape", "spot"] (lift K BG) := by
 have G_steps_away : ZE P w K mg base CX0 4 T.JX T.JS ["pieces", "spot"] (lift K C8) := YT T
 have G_other_side : ZE P w K mg base CX0 6 T.JT T.JV ["shape", "spot"] (lift K W2) := YM T
 have G_lies_in : ZE P w K mg base CX0 5 T.VP T.VW ["shape", "spot"] (lift K GL) := XB T
 refine okD T.UG.F CV (fun xs M Φ h => by obtain ⟨_, _, rfl, _⟩ := Zz h; rfl) fun cdv A outer s H E hr => ⟨_, (Ze (Zr 2 CV.nd (Zh G_steps_away (hr.mono (by first | decide | omega)) rfl T.Qs.m T.Qs.F.kp T.Qs.b Zs (Za (Zh G_other_side (hr.mono (by first | decide | omega)) rfl T.Qv.m T.Qv.F.kp T.Qv.b Zs (Za (Zb 0) (Za (Zb 1) Zd))) (Za (Zb 1) Zd))))
 (Zi (Zn (Lw (QE (Zh G_lies_in (hr.mono (by first | decide | omega)) rfl T.Z5.m T.Z5.F.kp T.Z5.b Zs (Za (Zb 0) (Za (Zb 1) Zd)))) (Zb 2) (U1 (Zb 2)))))), fun xs M Φ h => ?_⟩
 replace h := Zz h
 obtain ⟨x1, x2, rfl, h⟩ := h
 replace h := Z0 h
 obtain ⟨bs, rfl, h⟩ := h
 replace h := Qt h
 obtain ⟨u, v, rfl, hs, h⟩ := h
 walk_at "rk"
 refine ⟨hs, fun ps hp hF hl => ⟨⟨hp.ne, hl⟩, fun m m1 m2 => ?_⟩⟩
 have k := hp.depth m1 m2
 refine ⟨hs.2.1, Pu (fun q => ?_) fun q => ?_⟩
 ·rw [q, if_pos rfl] at k
  exact h _ k
 ·rw [q, if_neg Bool.false_ne_true] at k
  exact h _ k
theorem Dj (T : Tx K mg) : ZE P w K mg base CX0 7 T.Kq T.K3 ["shape", "spot"] (lift K K4) := by
 have G_other_side : ZE P w K mg base CX0 6 T.JT T.JV ["shape", "spot"] (lift K W2) := YM T
 have G_square : ZE P w K mg base CX0 1 T.Y6 T.YE ["spot", "r"] (lift K YY) := X8 T
 have G_steps_away : ZE P w K mg base CX0 4 T.JX T.JS ["pieces", "spot"] (lift K C8) := YT T
 have G_common : ZE P w K mg base CX0 1 T.XX T.XY ["one", "other"] (lift K X0) := GH T
 have G_steps_between : ZE P w K mg base CX0 2 T.Z8 T.Z6 ["one", "other"] (lift K Vh) := QJ T
 refine okD T.Y0.F Xz (fun xs M Φ h => by obtain ⟨_, _, rfl, _⟩ := Zz h; rfl) fun cdv A outer s H E hr => ⟨_, (Ze (Zr 2 Xz.nd (Zh G_other_side (hr.mono (by first | decide | omega)) rfl T.Qv.m T.Qv.F.kp T.Qv.b Zs (Za (Zb 0) (Za (Zb 1) Zd))))
 (Ze (Zr 3 Xz.nd (Zh G_square (hr.mono (by first | decide | omega)) rfl T.Jd.m T.Jd.F.kp T.Jd.b Zs (Za (Zb 1) (Za (Zh G_steps_away (hr.mono (by first | decide | omega)) rfl T.Qs.m T.Qs.F.kp T.Qs.b Zs (Za (Zb 2) (Za (Zb 1) Zd))) Zd))))
 (Zi (Zn (Zj (Ln hr rfl) rfl T.Xh Vf (Za (Q2 false (ZQ (sc := Zf JF) (XN := ["shape", "spot", "pieces", "reach"]) (N := ["piece", "reach"]) (ix := [none, some 3]) rfl rfl (by decide +kernel)) (Yq (Zb 2)) (fun C ex s H => (Zo 0 (show List.Nodup (["piece", "reach"] : List Str) by decide +kernel))) (fun C ex s H => (BZ (ZF (Q6 hr) (Zh G_steps_between (hr.mono (by first | decide | omega)) rfl T.Zx.m T.Zx.F.kp T.Zx.b Zs (Za (Zb 0) (Za (Zb 1) Zd))) Zc))) (fun C ex s H => (Zg (Zh G_common (hr.mono (by first | decide | omega)) rfl T.Vz.m T.Vz.F.kp T.Vz.b Zs (Za (Zb 0) (Za (Zb 1) Zd))) Zc)) rfl) Zd)))))), fun xs M Φ h => ?_⟩
 replace h := Zz h
 obtain ⟨x1, x2, rfl, h⟩ := h
 replace h := Z0 h
 obtain ⟨bs, rfl, h⟩ := h
 replace h := Qt h
 obtain ⟨u, v, rfl, hs, h⟩ := h
 walk_at "hd"
 walk_at "rk"
 refine ⟨hs, fun ps hp hF hl => ?_⟩
 walk_at "hd"
 walk_at "rk"
 refine ⟨⟨hp.ne, hl⟩, fun m m1 m2 => ?_⟩
 subst_vars
 walk_at "rk"
 refine ⟨by rw [List.length_map]; omega, fun i acc M' => acc = (((ps.take i).filter fun p => decide (Jk p (Qn u v m) = 0)).map (Ed u v m)).map prD ∧ M' = M, ⟨rfl, rfl⟩, ?_, ?_⟩
 ·rintro i d acc M' hd ⟨rfl, rfl⟩
  obtain ⟨b, eb, rfl⟩ := Qe hd
  walk_at "rk"
  rw [Yt _ eb]
  cases decide (Jk b (Qn u v m) = 0) with
  | true =>
   rw [if_pos rfl, if_pos rfl, List.map_append, List.map_append]
   rfl
  | false => rw [if_neg Bool.false_ne_true, if_neg Bool.false_ne_true, List.append_nil]
 ·rintro acc M1 ⟨rfl, rfl⟩
  rw [List.length_map, List.take_length]
  have hm : 0 ≤ m := by
   obtain ⟨pm, mpm, epm⟩ := m1
   rw [← epm]; exact YG _ _ _
  refine ⟨_, rfl, ?_, fun q hq hmin => ?_⟩
  ·obtain ⟨pm, mpm, epm⟩ := m1
   rw [List.length_map]
   exact List.length_pos_iff.mpr (List.ne_nil_of_mem (List.mem_filter.mpr ⟨mpm, decide_eq_true ((YI hm (m2 pm mpm)).mpr epm)⟩))
  ·obtain ⟨p, hp', e⟩ := List.mem_map.mp hq
   obtain ⟨mp, c⟩ := List.mem_filter.mp hp'
   have k := hp.least m1 m2 (hF m m2) mp ((YI hm (m2 p mp)).mp (of_decide_eq_true c)) (fun r mr er => by
    rw [e]
    exact hmin _ (List.mem_map.mpr ⟨r, List.mem_filter.mpr ⟨mr, decide_eq_true ((YI hm (m2 r mr)).mpr er)⟩, rfl⟩))
   subst e
   refine h _ _ fun d hd => ?_
   have kd := hp.depth m1 m2
   rw [hd.eq kd]
   have ea : ab (if anyB bs u v = true then m else -m) = m := by
    split
    ·have := QU m
     omega
    ·have := QU (-m)
     omega
   rw [ea]
   exact k
theorem Vn (T : Tx K mg) : ZE P w K mg base CX0 1 T.JB T.Jz ["thing"] (lift K spW) := by
 refine okD T.ZG.F BX (fun xs M Φ h => by obtain ⟨_, rfl, _⟩ := Qa h; rfl) fun cdv A outer s H E hr => ⟨_, (Zi (Zn (QI (Zj (VS (Fz _)) rfl T.ZR ZN (Za (Zb 0) (Za (Kf rfl T.Zag O1) Zd))) (JK (C2 (Zj (VS (W6 _)) rfl T.ZR ZN (Za (Zb 0) (Za (Kf rfl T.Gi KU) Zd)))))))), fun xs M Φ h => ?_⟩
 replace h := Qa h
 obtain ⟨x1, rfl, h⟩ := h
 replace h := Qo h
 obtain ⟨d, rfl, h⟩ := h
 walk_at "rk"
 cases d <;> simpa [ZT, tyN, ZM] using h
theorem WA (T : Tx K mg) : ZE P w K mg base CX0 5 T.YK T.Y3 ["box", "other"] (lift K XW) := by
 have G_has : ZE P w K mg base CX0 4 T.Nq T.Ob ["box", "spot"] (lift K Co) := PF T
 refine okD T.JM.F D9 (fun xs M Φ h => by obtain ⟨_, _, rfl, _⟩ := Zz h; rfl) fun cdv A outer s H E hr => ⟨_, (Zi (Zn (QI (Zh G_has (hr.mono (by first | decide | omega)) rfl T.Wd.m T.Wd.F.kp T.Wd.b Zs (Za (Zb 0) (Za (Zg (Zb 1) Zc) Zd))) (JK (Zh G_has (hr.mono (by first | decide | omega)) rfl T.Wd.m T.Wd.F.kp T.Wd.b Zs (Za (Zb 0) (Za (Zg (Zb 1) Zc) Zd))))))), fun xs M Φ h => ?_⟩
 replace h := Zz h
 obtain ⟨x1, x2, rfl, h⟩ := h
 replace h := ZY h
 obtain ⟨a, rfl, h⟩ := h
 replace h := ZY h
 obtain ⟨b, rfl, h⟩ := h
 walk_at "rk"
 unfold allB at h
 cases q : hasB a b.x b.y with
 | true => rw [q] at h; simpa using h
 | false => rw [q] at h; simpa using h
theorem Cp (T : Tx K mg) : ZE P w K mg base CX0 1 T.W9 T.Ud ["box", "way", "at"] (lift K ZcT) := by
 refine okD T.Yp.F CZ (fun xs M Φ h => by obtain ⟨_, _, _, rfl, _⟩ := ZS h; rfl) fun cdv A outer s H E hr => ⟨_, (Ze (Zr 3 CZ.nd (Lw (ZF (Q6 hr) (Zb 1) Zc) (Zk (Za (Zb 2) (Za (Zg (Zg (Zb 0) Zc) Zc) Zd))) (Zk (Za (Zg (Zg (Zb 0) Zc) Zc) (Za (Zb 2) Zd)))))
 (Zi (Zn (Zk (Za (Zg (Zb 0) Zc) (Za (Zb 3) Zd)))))), fun xs M Φ h => ?_⟩
 replace h := ZS h
 obtain ⟨x1, x2, x3, rfl, h⟩ := h
 replace h := ZY h
 obtain ⟨b, rfl, h⟩ := h
 replace h := ZO h
 obtain ⟨i, rfl, h⟩ := h
 replace h := ZO h
 obtain ⟨a, rfl, h⟩ := h
 unfold upB at h
 walk_at "hd"
 walk_at "rk"
 refine Zl (fun z => ?_) fun z => ?_
 ·rw [if_pos z] at h
  subst_vars
  walk_at "rk"
  exact h
 ·rw [if_neg z] at h
  subst_vars
  walk_at "rk"
  exact h
theorem Yh (T : Tx K mg) : ZE P w K mg base CX0 1 T.Jv T.Jw ["box", "way", "at"] (lift K ZcR) := by
 refine okD T.Qi.F Yi (fun xs M Φ h => by obtain ⟨_, _, _, rfl, _⟩ := ZS h; rfl) fun cdv A outer s H E hr => ⟨_, (Ze (Zr 3 Yi.nd (Lw (ZF (Q6 hr) (Zb 1) Zc) (Zk (Za (Zb 2) (Za (Zg (Zg (Zb 0) Zc) Zc) Zd))) (Zk (Za (Zg (Zg (Zb 0) Zc) Zc) (Za (Zb 2) Zd)))))
 (Zi (Zn (Zk (Za (Zb 3) (Za (Zg (Zb 0) Zc) Zd)))))), fun xs M Φ h => ?_⟩
 replace h := ZS h
 obtain ⟨x1, x2, x3, rfl, h⟩ := h
 replace h := ZY h
 obtain ⟨b, rfl, h⟩ := h
 replace h := ZO h
 obtain ⟨i, rfl, h⟩ := h
 replace h := ZO h
 obtain ⟨a, rfl, h⟩ := h
 unfold owB at h
 walk_at "hd"
 walk_at "rk"
 refine Zl (fun z => ?_) fun z => ?_
 ·rw [if_pos z] at h
  subst_vars
  walk_at "rk"
  exact h
 ·rw [if_neg z] at h
  subst_vars
  walk_at "rk"
  exact h
theorem Kt (T : Tx K mg) : ZE P w K mg base CX0 2 T.J5 T.J3 ["shape", "k"] (lift K S1) := by
 have G_is_whole : ZE P w K mg base CX0 1 T.JB T.Jz ["thing"] (lift K spW) := Vn T
 refine okD T.Jc.F Kc (fun xs M Φ h => by obtain ⟨_, _, rfl, _⟩ := Zz h; rfl) fun cdv A outer s H E hr => ⟨_, (Zi (Zn (QI (Zh G_is_whole (hr.mono (by first | decide | omega)) rfl T.ZG.m T.ZG.F.kp T.ZG.b Zs (Za (Zb 1) Zd)) (JK (Uy Yv KA Zc (Zb 1) (Zj Qc rfl T.Jf Qd (Za (Zb 0) Zd))))))), fun xs M Φ h => ?_⟩
 replace h := Zz h
 obtain ⟨x1, x2, rfl, h⟩ := h
 replace h := Z0 h
 obtain ⟨bs, rfl, h⟩ := h
 replace h := Qo h
 obtain ⟨k, rfl, h⟩ := h
 walk_at "rk"
 cases k with
 | int k =>
  unfold Ti Ds at h
  unfold ZM
  walk_at "rk"
  rw [List.length_map]
  refine Zl (fun z => ?_) fun z => ?_
  ·simpa [z] using h
  ·simpa [z] using h
 | _ => simpa [ZM, Ti] using h
theorem Rx (T : Tx K mg) : ZE P w K mg base CX0 2 T.Le T.Fn ["box", "way", "at"] (lift K HP) := by
 have G_is_whole : ZE P w K mg base CX0 1 T.JB T.Jz ["thing"] (lift K spW) := Vn T
 refine okD T.C0.F RU (fun xs M Φ h => by obtain ⟨_, _, _, rfl, _⟩ := ZS h; rfl) fun cdv A outer s H E hr => ⟨_, (Zi (Zn (QI (Zh G_is_whole (hr.mono (by first | decide | omega)) rfl T.ZG.m T.ZG.F.kp T.ZG.b Zs (Za (Zb 1) Zd)) (QI (Uy Yv Yv Zc (Zb 1) Zc) (QI (Zh G_is_whole (hr.mono (by first | decide | omega)) rfl T.ZG.m T.ZG.F.kp T.ZG.b Zs (Za (Zb 2) Zd)) (JK (Uy Yv KA (Zg (Zg (Zb 0) Zc) (Zb 1)) (Zb 2) (Zg (Zg (Zb 0) Zc) (Zb 1))))))))), fun xs M Φ h => ?_⟩
 replace h := ZS h
 obtain ⟨x1, x2, x3, rfl, h⟩ := h
 replace h := ZY h
 obtain ⟨b, rfl, h⟩ := h
 replace h := Qo h
 obtain ⟨i, rfl, h⟩ := h
 replace h := Qo h
 obtain ⟨a, rfl, h⟩ := h
 walk_at "rk"
 cases i with
 | int i =>
  unfold ZM
  walk_at "rk"
  have no : (¬ 0 ≤ i ∨ ¬ i ≤ 1) → YH b (.int i) a = false := fun z => by
   cases a with
   | int a =>
    show Xk b i a = false
    rw [Bool.eq_false_iff]
    intro y
    have := (QH.mp y).1
    omega
   | _ => rfl
  refine Zl (fun z0 => ?_) fun z0 => ?_
  ·refine Zl (fun z1 => ?_) fun z1 => ?_
   ·cases a with
    | int a =>
     walk_at "rk"
     unfold YH Xk at h
     have two : i = 0 ∨ i = 1 := by omega
     rcases two with rfl | rfl
     ·walk_at "rk"
      unfold loB hiB at h
      refine Zl (fun z => ?_) fun z => ?_
      ·simpa [z] using h
      ·simpa [z] using h
     ·walk_at "rk"
      unfold loB hiB at h
      refine Zl (fun z => ?_) fun z => ?_
      ·simpa [z] using h
      ·simpa [z] using h
    | _ => simpa [YH] using h
   ·rw [no (.inr z1)] at h
    walk_at "rk"
    exact h
  ·rw [no (.inl z0)] at h
   exact h
 | _ => simpa [ZM, YH] using h
theorem Wi (T : Tx K mg) (n : Nat) : ZE P w K mg base CX0 (5 + n) T.QW T.Q4 ["shape", "box", "thing"] (lift K (XC n)) := by
 refine Nat.rec (motive := fun n => ZE P w K mg base CX0 (5 + n) T.QW T.Q4 ["shape", "box", "thing"] (lift K (XC n))) ?_ (fun n G_holds_cover => ?_) n
 ·exact Pw U2
 show ZE P w K mg base CX0 (5 + n + 1) T.QW T.Q4 ["shape", "box", "thing"] (lift K (XC (n + 1)))
 have G_cuts : ZE P w K mg base CX0 2 T.Le T.Fn ["box", "way", "at"] (lift K HP) := Rx T
 have G_up_to : ZE P w K mg base CX0 1 T.W9 T.Ud ["box", "way", "at"] (lift K ZcT) := Cp T
 have G_onward_from : ZE P w K mg base CX0 1 T.Jv T.Jw ["box", "way", "at"] (lift K ZcR) := Yh T
 have G_is_number_of : ZE P w K mg base CX0 2 T.J5 T.J3 ["shape", "k"] (lift K S1) := Kt T
 have G_has_all : ZE P w K mg base CX0 5 T.YK T.Y3 ["box", "other"] (lift K XW) := WA T
 refine okD T.ZP.F J4 (fun xs M Φ h => by obtain ⟨_, _, _, rfl, _⟩ := ZS h; rfl) fun cdv A outer s H E hr => ⟨_, (Ze (Qf (Q7 (QE (Zj (VS (kit_tuple _)) rfl T.ZR ZN (Za (Zb 2) (Za (Kf rfl T.JI QY) Zd))))) (Zi (Zn Jq)) ZC)
 (Ze (Qf (DW.dt (Y5 (ZF (Q6 hr) (Zj Qc rfl T.Jf Qd (Za (Zb 2) Zd)) Zc) (Xs (ZF (Q6 hr) (Zg (Zb 2) Zc) Z1)))) (Zi (Zn (QI (Zh G_is_number_of (hr.mono (by first | decide | omega)) rfl T.Jc.m T.Jc.F.kp T.Jc.b Zs (Za (Zb 0) (Za (Zg (Zb 2) Zc) Zd))) (JK (Zh G_has_all (hr.mono (by first | decide | omega)) rfl T.JM.m T.JM.F.kp T.JM.b Zs (Za (Zg (Zb 0) (Zg (Zb 2) Zc)) (Za (Zb 1) Zd))))))) ZC)
 (Ze (Qf (DW.dt (Y5 (ZF (Q6 hr) (Zj Qc rfl T.Jf Qd (Za (Zb 2) Zd)) Zc) (Y5 (ZF (Q6 hr) (Zg (Zb 2) Zc) Z1) (Xs (QE (Zh G_cuts (hr.mono (by first | decide | omega)) rfl T.C0.m T.C0.F.kp T.C0.b Zs (Za (Zb 1) (Za (Zg (Zb 2) Zc) (Za (Zg (Zb 2) Zc) Zd))))))))) (Ze (Zr 3 J4.nd (Zh G_up_to (hr.mono (by first | decide | omega)) rfl T.Yp.m T.Yp.F.kp T.Yp.b Zs (Za (Zb 1) (Za (Zg (Zb 2) Zc) (Za (Zg (Zb 2) Zc) Zd)))))
 (Ze (Zr 4 J4.nd (Zh G_onward_from (hr.mono (by first | decide | omega)) rfl T.Qi.m T.Qi.F.kp T.Qi.b Zs (Za (Zb 1) (Za (Zg (Zb 2) Zc) (Za (Zm Zy (Zg (Zb 2) Zc) Zc) Zd)))))
 (Zi (Zn (QI (Zh G_holds_cover (hr.mono (by first | decide | omega)) rfl T.ZP.m T.ZP.F.kp T.ZP.b Zs (Za (Zb 0) (Za (Zb 3) (Za (Zg (Zb 2) Zc) Zd)))) (JK (Zh G_holds_cover (hr.mono (by first | decide | omega)) rfl T.ZP.m T.ZP.F.kp T.ZP.b Zs (Za (Zb 0) (Za (Zb 4) (Za (Zg (Zb 2) Zc) Zd)))))))))) ZC)
 (Zi (Zn Jq))))), fun xs M Φ h => ?_⟩
 replace h := ZS h
 obtain ⟨x1, x2, x3, rfl, h⟩ := h
 replace h := Z0 h
 obtain ⟨bs, rfl, h⟩ := h
 replace h := ZY h
 obtain ⟨b, rfl, h⟩ := h
 replace h := Qo h
 obtain ⟨d, rfl, hp, h⟩ := h
 cases d with
 | tuple ds =>
  by_cases h2 : ds.length = 2
  ·obtain ⟨x, k, rfl⟩ := KJ h2
   have e : ZH bs (n + 1) b (.tuple [x, k]) = (isS x (Str.ofString "box") && Ke bs b k) := rfl
   rw [e] at h
   walk_at "hd"
   walk_at "rk"
   walk_at "hd"
   walk_at "rk"
   refine VM hp Zw ?_
   cases q : isS x (Str.ofString "box") with
   | false =>
    rw [q] at h
    subst_vars
    walk_at "rk"
    simpa using h
   | true =>
    rw [q, Bool.true_and] at h
    walk_at "rk"
    cases k with
    | int k =>
     have el : Ke bs b (.int k) = (Ds bs k && (match bs[k.toNat]? with | some c => allB c b | none => false)) := rfl
     rw [el] at h
     have en : Ti bs (.int k) = Ds bs k := rfl
     rw [en]
     cases hn : Ds bs k with
     | false =>
      rw [hn] at h
      walk_at "rk"
      simpa using h
     | true =>
      rw [hn] at h
      walk_at "rk"
      have hk : 0 ≤ k ∧ k < bs.length := by
       unfold Ds at hn
       simpa using hn
      obtain ⟨c, ec⟩ : ∃ c, bs[k.toNat]? = some c := ⟨_, List.getElem?_eq_getElem (by omega)⟩
      rw [ec] at h
      obtain ⟨j, rfl⟩ := Int.eq_ofNat_of_zero_le hk.1
      refine JE (d := bD c) (Vl (by rw [List.getElem?_map]; rw [Int.toNat_natCast] at ec; rw [ec]; rfl)) ?_
      walk_at "rk"
      simpa using h
    | _ =>
     unfold Ti
     walk_at "rk"
     simpa [Ke] using h
  ·by_cases h5 : ds.length = 5
   ·obtain ⟨x, i, a, p, q, rfl⟩ := KC h5
    have e : ZH bs (n + 1) b (.tuple [x, i, a, p, q]) = (isS x (Str.ofString "cut") && (YH b i a && (ZH bs n (upD b i a) p && ZH bs n (owD b i a) q))) := rfl
    rw [e] at h
    walk_at "hd"
    walk_at "rk"
    walk_at "hd"
    walk_at "rk"
    subst_vars
    walk_at "rk"
    refine VM hp.1 Zw ?_
    cases hx : isS x (Str.ofString "cut") with
    | false =>
     rw [hx] at h
     walk_at "rk"
     simpa using h
    | true =>
     rw [hx, Bool.true_and] at h
     walk_at "rk"
     cases hc : YH b i a with
     | false =>
      rw [hc] at h
      walk_at "rk"
      simpa using h
     | true =>
      rw [hc, Bool.true_and] at h
      cases i with
      | int i =>
       cases a with
       | int a =>
        walk_at "rk"
        refine ⟨hp.2.1, ?_⟩
        have e1 : upD b (.int i) (.int a) = upB b i a := rfl
        have e2 : owD b (.int i) (.int a) = owB b i (a + 1) := rfl
        rw [e1, e2] at h
        cases hq : ZH bs n (upB b i a) p with
        | false =>
         rw [hq] at h
         walk_at "rk"
         simpa using h
        | true =>
         rw [hq, Bool.true_and] at h
         walk_at "rk"
         exact ⟨hp.2.2, h⟩
       | _ => cases hc
      | _ => cases hc
   ·rw [VU h2 h5] at h
    walk_at "hd"
    walk_at "rk"
    walk_at "hd"
    walk_at "rk"
    refine Zl (fun z => absurd z (by omega)) fun _ => ?_
    subst_vars
    walk_at "rk"
    refine Zl (fun z => absurd z (by omega)) fun _ => ?_
    exact h
 | _ =>
  walk_at "hd"
  walk_at "rk"
  simpa [ZH] using h
theorem Uz (T : Tx K mg) : ZE P w K mg base CX0 3 T.V1 T.V2 ["shape", "box", "way"] (lift K Uk) := by
 have G_steps_between : ZE P w K mg base CX0 2 T.Z8 T.Z6 ["one", "other"] (lift K Vh) := QJ T
 refine okG T.Qr.F Vp (fun xs M Φ h => by obtain ⟨_, _, _, rfl, _⟩ := ZS h; rfl) fun cdv A outer s H E hr => ⟨_, (Ze (Zr 3 Vp.nd (Q0 Zd))
 (Ze (G9 (Zb 0) (Zo 4 Vp.nd) (Zi (Qf (ZF (Q6 hr) (Zh G_steps_between (hr.mono (by first | decide | omega)) rfl T.Zx.m T.Zx.F.kp T.Zx.b Zs (Za (Zb 4) (Za (Zb 1) Zd))) Zc) (Zi (J6 (U9 (Zb 3) (Q0 (Za (Zm ZI (Zg (Zg (Zb 4) Zc) (Zb 2)) Zc) (Za (Zg (Zg (Zb 4) Zc) (Zb 2)) Zd)))))) ZC)) PassesOwn.never rfl)
 (Zi (Zn (GJ rfl T.Nr rfl T.ZdU (Za (Q2 false (ZQ (sc := Zf Qw) (XN := ["shape", "box", "way", "places", "other"]) (N := ["at", "way", "box"]) (ix := [none, some 2, some 1]) rfl rfl (by decide +kernel)) (Yq (CM (Zb 3))) (fun C ex s H => (Zo 0 (show List.Nodup (["at", "way", "box"] : List Str) by decide +kernel))) (fun C ex s H => (BZ (UE Yv KA (Zg (Zg (Zb 2) Zc) (Zb 1)) (Zb 0) (Zg (Zg (Zb 2) Zc) (Zb 1))))) (fun C ex s H => (Zb 0)) rfl) Zd)))))), fun xs M Φ h => ?_⟩
 replace h := ZS h
 obtain ⟨x1, x2, x3, rfl, h⟩ := h
 replace h := Z0 h
 obtain ⟨bs, rfl, h⟩ := h
 replace h := ZY h
 obtain ⟨b, rfl, h⟩ := h
 replace h := ZO h
 obtain ⟨i, rfl, ⟨hl, hi⟩, h⟩ := h
 walk_at "hd"
 walk_at "rk"
 intro q hq
 walk_at "hd"
 walk_at "rk"
 refine ⟨fun n Δ M' => ∃ k4, Δ = [some (.dat (.tuple (bs.map bD))), some (.dat (bD b)), some (.dat (.int i)), some (.own q), k4] ∧ M' = Z3 M q (.lst ((plB b i (bs.take n)).map PyData.int)), ⟨none, rfl, rfl⟩, ?_, ?_⟩
 ·rintro n d Δ M' hd ⟨k4, rfl, rfl⟩
  obtain ⟨c, ec, rfl⟩ := Qe hd
  have len := FJ b i (bs.take n)
  rw [List.length_take] at len
  have sn := NF (b := b) (w := i) ec
  rw [Y1]
  walk_at "rk"
  refine Zl (fun z => ?_) fun z => ?_
  ·rw [if_pos z] at sn
   simp only [Pn hi, PQ hi]
   walk_at "rk"
   intro p hp
   have hne := fresh_ne hp
   simp only [Qm (Ne.symm hne)]
   walk_at "rk"
   refine ⟨hne, by rw [List.length_map]; omega, _, rfl, ?_⟩
   rw [Ly hp, sn, List.map_append]
   rfl
  ·rw [if_neg z, List.append_nil] at sn
   rw [← sn]
   exact ⟨_, rfl, rfl⟩
 ·rintro Δ M' ⟨k4, rfl, rfl⟩
  rw [List.length_map, List.take_length]
  subst_vars
  walk_at "rk"
  have len := FJ b i bs
  rw [YV hq]
  refine ⟨by rw [List.length_map]; omega, fun n acc M' => acc = (((plB b i bs).take n).filter fun z => decide (loB b i ≤ z) && decide (z < hiB b i)).map PyData.int ∧ M' = M, ⟨rfl, rfl⟩, ?_, ?_⟩
  ·rintro n d acc M' hd ⟨rfl, rfl⟩
   obtain ⟨z, ez, rfl⟩ := Qe hd
   have flt := Yt (fun z => decide (loB b i ≤ z) && decide (z < hiB b i)) ez
   rw [Pn hi]
   walk_at "rk"
   refine Zl (fun z0 => ?_) fun z0 => ?_
   ·rw [PQ hi]
    walk_at "rk"
    refine Zl (fun z1 => ?_) fun z1 => ?_
    ·rw [flt, if_pos (by rw [decide_eq_true z0, decide_eq_true z1]; rfl), List.map_append]
     rfl
    ·rw [flt, if_neg (by rw [decide_eq_false z1, Bool.and_false]; exact Bool.false_ne_true), List.append_nil]
   ·rw [flt, if_neg (by rw [decide_eq_false z0, Bool.false_and]; exact Bool.false_ne_true), List.append_nil]
  ·rintro acc M' ⟨rfl, rfl⟩
   rw [List.length_map, List.take_length]
   refine ⟨_, .inl rfl, Nat.lt_of_le_of_lt (List.length_filter_le _ _) (by omega), fun ks _ _ hk => Zdb (h ks (fun z hz => ?_) fun c hc h0 he => ?_)⟩
   ·obtain ⟨h1, h2⟩ := List.mem_filter.mp ((hk z).mp hz)
    simp only [Bool.and_eq_true, decide_eq_true_eq] at h2
    exact ⟨h2, R5 h1⟩
   ·have he := Lv.mp he
    exact (hk _).mpr (List.mem_filter.mpr ⟨Ra hc h0, by simp only [Bool.and_eq_true, decide_eq_true_eq]; exact he⟩)
theorem Bc (T : Tx K mg) (n : Nat) : ZE P w K mg base CX0 (6 + n) T.J9 T.Vg ["shape", "box"] (lift K (Y9 n)) := by
 refine Nat.rec (motive := fun n => ZE P w K mg base CX0 (6 + n) T.J9 T.Vg ["shape", "box"] (lift K (Y9 n))) ?_ (fun n G_cover_of => ?_) n
 ·exact Pw U3
 show ZE P w K mg base CX0 (6 + n + 1) T.J9 T.Vg ["shape", "box"] (lift K (Y9 (n + 1)))
 have G_cut_places : ZE P w K mg base CX0 3 T.V1 T.V2 ["shape", "box", "way"] (lift K Uk) := Uz T
 have G_has_all : ZE P w K mg base CX0 5 T.YK T.Y3 ["box", "other"] (lift K XW) := WA T
 have G_up_to : ZE P w K mg base CX0 1 T.W9 T.Ud ["box", "way", "at"] (lift K ZcT) := Cp T
 have G_onward_from : ZE P w K mg base CX0 1 T.Jv T.Jw ["box", "way", "at"] (lift K ZcR) := Yh T
 refine okD T.Qk.F Qy (fun xs M Φ h => by obtain ⟨_, _, rfl, _⟩ := Zz h; rfl) fun cdv A outer s H E hr => ⟨_, (Ze (VE rfl T.QV (Za (Zj Qc rfl T.Jf Qd (Za (Zb 0) Zd)) Zd) (Zo 2 Qy.nd) (Zi (Qf (QE (Zh G_has_all (hr.mono (by first | decide | omega)) rfl T.JM.m T.JM.F.kp T.JM.b Zs (Za (Zg (Zb 0) (Zb 2)) (Za (Zb 1) Zd)))) (Zi (Zn (Zk (Za Z1 (Za (Zb 2) Zd))))) ZC)) PassesOwn.never rfl)
 (Ze (Zr 3 Qy.nd (Zh G_cut_places (hr.mono (by first | decide | omega)) rfl T.Qr.m T.Qr.F.kp T.Qr.b Zs (Za (Zb 0) (Za (Zb 1) (Za Zc Zd)))))
 (Ze (Zr 4 Qy.nd (Zh G_cut_places (hr.mono (by first | decide | omega)) rfl T.Qr.m T.Qr.F.kp T.Qr.b Zs (Za (Zb 0) (Za (Zb 1) (Za Zc Zd)))))
 (Ze (Zr 5 Qy.nd (Lw (ZF Mb (Zj Qc rfl T.Jf Qd (Za (Zb 3) Zd)) (Zj Qc rfl T.Jf Qd (Za (Zb 4) Zd))) Zc Zc))
 (Ze (Zr 6 Qy.nd (Lw (ZF (Q6 hr) (Zb 5) Zc) (Zb 3) (Zb 4)))
 (Ze (Zr 7 Qy.nd (Zg (Zb 6) (Zm EK (Zj Qc rfl T.Jf Qd (Za (Zb 6) Zd)) Zc)))
 (Ze (Zr 8 Qy.nd (Zh G_cover_of (hr.mono (by first | decide | omega)) rfl T.Qk.m T.Qk.F.kp T.Qk.b Zs (Za (Zb 0) (Za (Zh G_up_to (hr.mono (by first | decide | omega)) rfl T.Yp.m T.Yp.F.kp T.Yp.b Zs (Za (Zb 1) (Za (Zb 5) (Za (Zb 7) Zd)))) Zd))))
 (Zi (Zn (Zk (Za Z1 (Za (Zb 5) (Za (Zb 7) (Za (Zb 8) (Za (Zh G_cover_of (hr.mono (by first | decide | omega)) rfl T.Qk.m T.Qk.F.kp T.Qk.b Zs (Za (Zb 0) (Za (Zh G_onward_from (hr.mono (by first | decide | omega)) rfl T.Qi.m T.Qi.F.kp T.Qi.b Zs (Za (Zb 1) (Za (Zb 5) (Za (Zm Zy (Zb 7) Zc) Zd)))) Zd))) Zd))))))))))))))), fun xs M Φ h => ?_⟩
 replace h := Zz h
 obtain ⟨x1, x2, rfl, h⟩ := h
 replace h := Z0 h
 obtain ⟨bs, rfl, h⟩ := h
 replace h := ZY h
 obtain ⟨b, rfl, ⟨⟨hl, hb, hc⟩, hn⟩, h⟩ := h
 walk_at "hd"
 walk_at "rk"
 rw [List.length_map]
 refine ⟨⟨by omega, by omega⟩, fun i Δ M' => ∃ k2, Δ = [some (.dat (.tuple (bs.map bD))), some (.dat (bD b)), k2, none, none, none, none, none, none] ∧ M' = M ∧ ∀ j c, j < i → bs[j]? = some c → allB c b = false, ⟨none, rfl, rfl, fun j c hj => absurd hj (Nat.not_lt_zero _)⟩, ?_, ?_⟩
 ·rintro i Δ M' hi ⟨k2, rfl, rfl, ha⟩
  have hi : i < bs.length := by omega
  obtain ⟨c, ec⟩ : ∃ c, bs[i]? = some c := ⟨_, List.getElem?_eq_getElem hi⟩
  rw [Y1]
  walk_at "rk"
  refine JE (d := bD c) (Vl (by rw [List.getElem?_map, ec]; rfl)) ?_
  walk_at "rk"
  cases q : allB c b with
  | true =>
   walk_at "rk"
   exact h (.box (i : Int)) (EC ec q) (Nat.succ_le_succ (Nat.zero_le _))
  | false =>
   walk_at "rk"
   refine ⟨_, rfl, fun j c' hj ej => ?_⟩
   by_cases e : j = i
   ·rw [e, ec] at ej
    cases ej
    exact q
   ·exact ha j c' (by omega) ej
 ·rintro Δ M' ⟨k2, rfl, rfl, ha⟩
  have no : ∀ c ∈ bs, allB c b = false := fun c mc => by
   obtain ⟨j, hj, ej⟩ := List.mem_iff_getElem.mp mc
   exact ha j c (by omega) (by rw [← ej]; exact List.getElem?_eq_getElem hj)
  obtain ⟨c0, m0, a0, e0⟩ := Rc hb hc no
  walk_at "hd"
  walk_at "rk"
  refine ⟨⟨hl, .inl trivial⟩, fun k0 c0' x0 => ?_⟩
  walk_at "hd"
  walk_at "rk"
  refine ⟨⟨hl, .inr trivial⟩, fun k1 c1' x1 => ?_⟩
  walk_at "hd"
  walk_at "rk"
  rename_i R hR
  rw [List.length_map, List.length_map]
  suffices rest : ∀ (w : Int) (ks : List Int), (w = 0 ∧ ks = k0) ∨ (w = 1 ∧ ks = k1) → ks ≠ [] → R { nx := fun _ M' => Φ (.dat .none) M', rt := Φ } [some (.dat (.tuple (bs.map bD))), some (.dat (bD b)), k2, some (.dat (.list (k0.map PyData.int))), some (.dat (.list (k1.map PyData.int))), some (.dat (.int w)), none, none, none] M' by
   have some0 : k0 ≠ [] ∨ k1 ≠ [] := e0.imp (fun e z => by have := x0 c0 m0 a0 e; rw [z] at this; cases this) fun e z => by have := x1 c0 m0 a0 e; rw [z] at this; cases this
   refine Zl (fun z => rest 0 k0 (.inl ⟨rfl, rfl⟩) fun e => ?_) fun z => rest 1 k1 (.inr ⟨rfl, rfl⟩) fun e => ?_
   ·rcases some0 with y | y
    ·exact y e
    ·have := List.length_pos_iff.mpr y
     rw [e] at z
     simp only [List.length_nil] at z
     omega
   ·rw [e] at z
    simp only [List.length_nil] at z
    omega
  intro w ks hw hne
  have hw' : w = 0 ∨ w = 1 := hw.imp (·.1) (·.1)
  have hks : ∀ z ∈ ks, SK bs b w z := by rcases hw with ⟨rfl, rfl⟩ | ⟨rfl, rfl⟩ <;> assumption
  have hpos := List.length_pos_iff.mpr hne
  have hm : ks.length / 2 < ks.length := by omega
  have ck := hks _ (List.getElem_mem hm)
  have idx : L2.atI (ks.map PyData.int) ((ks.length : Int) / 2) = some (.int (ks[ks.length / 2]'hm)) := by
   rw [show (ks.length : Int) / 2 = ((ks.length / 2 : Nat) : Int) by omega]
   exact Vl (by rw [List.getElem?_map, List.getElem?_eq_getElem hm]; rfl)
  generalize ks[ks.length / 2]'hm = a at *
  obtain ⟨⟨ck1, ck2⟩, cd, mcd, ecd⟩ := ck
  have ok2 := Pb hb hw' ck1 ck2
  have cv2 := hc.sub hw' ck1 ck2
  have ms := P6 (bs := dbl bs) hw' ck1 ck2 mcd ecd
  clear ecd
  subst hR
  walk_at "hd"
  rename_i R hR
  suffices rest : R { nx := fun _ M' => Φ (.dat .none) M', rt := Φ } [some (.dat (.tuple (bs.map bD))), some (.dat (bD b)), k2, some (.dat (.list (k0.map PyData.int))), some (.dat (.list (k1.map PyData.int))), some (.dat (.int w)), some (.dat (.list (ks.map PyData.int))), none, none] M' by
   rcases hw with ⟨rfl, rfl⟩ | ⟨rfl, rfl⟩
   ·walk_at "rk"
    exact rest
   ·walk_at "rk"
    exact rest
  subst hR
  walk_at "hd"
  walk_at "rk"
  rw [List.length_map]
  refine ⟨by unfold Zc3; decide, JE idx ?_⟩
  walk_at "hd"
  walk_at "rk"
  refine ⟨⟨⟨hl, ok2.1, cv2.1⟩, by omega⟩, fun c1 h1 d1 => ?_⟩
  subst_vars
  walk_at "rk"
  refine ⟨⟨⟨hl, ok2.2, cv2.2⟩, by omega⟩, fun c2 h2 d2 => ?_⟩
  exact h (.cut w a c1 c2) (Fg hw' ck1 ck2 h1 h2) (by rw [GQ]; omega)
theorem Dg (T : Tx K mg) : ZE P w K mg base CX0 32 T.K2 T.X7 ["shape", "box"] (lift K Kk) := by
 have G_left_over : ZE P w K mg base CX0 4 T.Vy T.Vr ["box", "others"] (lift K Cu) := XM T
 have G_cover_of : ZE P w K mg base CX0 31 T.J9 T.Vg ["shape", "box"] (lift K (Y9 25)) := Bc T 25
 refine okD T.YX.F Wl (fun xs M Φ h => by obtain ⟨_, _, rfl, _⟩ := Zz h; rfl) fun cdv A outer s H E hr => ⟨_, (Ze (Zr 2 Wl.nd (Zh G_left_over (hr.mono (by first | decide | omega)) rfl T.QK.m T.QK.F.kp T.QK.b Zs (Za (Zb 1) (Za (Zb 0) Zd))))
 (Ze (Qf (ZaF (Zb 2)) (Zi (Zn (Zk (Za Z1 (Za (Zj (Ln hr rfl) rfl T.Xh Vf (Za (Q2 false (ZQ (sc := Zf JO) (XN := ["shape", "box", "lacking"]) (N := ["piece"]) (ix := [none]) rfl rfl (by decide +kernel)) (Yq (Zb 2)) (fun C ex s H => (Zo 0 (show List.Nodup (["piece"] : List Str) by decide +kernel))) (fun C ex s H => Q1) (fun C ex s H => (Zg (Zb 0) Zc)) rfl) Zd)) Zd))))) ZC)
 (Zi (Zn (Zk (Za Z1 (Za (Zh G_cover_of (hr.mono (by first | decide | omega)) rfl T.Qk.m T.Qk.F.kp T.Qk.b Zs (Za (Zb 0) (Za (Zb 1) Zd))) Zd))))))), fun xs M Φ h => ?_⟩
 replace h := Zz h
 obtain ⟨x1, x2, rfl, h⟩ := h
 replace h := Z0 h
 obtain ⟨bs, rfl, h⟩ := h
 replace h := ZY h
 obtain ⟨b, rfl, ⟨hs, hb⟩, h1, h2⟩ := h
 walk_at "hd"
 walk_at "rk"
 refine ⟨hs.2.1, ?_⟩
 have len := Ko b bs hs.2.1
 walk_at "hd"
 walk_at "rk"
 refine Bj (fun z => ?_) fun z => ?_
 ·refine ⟨by rw [List.length_map]; omega, fun i acc M' => acc = (((Jg b bs).take i).map fun p => (p.x, p.y)).map prD ∧ M' = M, ⟨rfl, rfl⟩, ?_, ?_⟩
  ·rintro i d acc M' hd ⟨rfl, rfl⟩
   obtain ⟨p, ep, rfl⟩ := Qe hd
   walk_at "rk"
   rw [← take_snoc _ ep, List.map_append]
   rfl
  ·rintro acc M' ⟨rfl, rfl⟩
   rw [List.length_map, List.take_length]
   refine ⟨_, rfl, ?_, fun q hq lq => h2 q.1 q.2 (NU hb hs.2.2 q hq lq)⟩
   rw [List.length_map]
   cases e : Jg b bs with
   | nil => rw [e] at z; exact absurd z (by decide)
   | cons x xs => exact Nat.succ_pos _
 ·have e : Jg b bs = [] := by
   cases e : Jg b bs with
   | nil => rfl
   | cons x xs => rw [e] at z; exact absurd rfl z
  have cv := Oe hb hs.2.2 e
  have cn := Zav (dbl bs) b
  have dl : (dbl bs).length = bs.length + bs.length := by
   unfold dbl
   rw [List.length_append, List.length_map]
  have hs6 := hs.2.1
  subst_vars
  walk_at "rk"
  exact ⟨⟨⟨hs.2.1, hb, cv⟩, by omega⟩, h1 cv⟩
theorem Wa (T : Tx K mg) : ZE P w K mg base CX0 2 T.VA T.Vs ["thing"] (lift K Xe) := by
 have G_is_whole : ZE P w K mg base CX0 1 T.JB T.Jz ["thing"] (lift K spW) := Vn T
 refine okD T.Jt.F Wf (fun xs M Φ h => by obtain ⟨_, rfl, _⟩ := Qa h; rfl) fun cdv A outer s H E hr => ⟨_, (Zi (Zn (QI (Zj (VS (kit_tuple _)) rfl T.ZR ZN (Za (Zb 0) (Za (Kf rfl T.JI QY) Zd))) (QI (JP (Q6 hr) (Zj Qc rfl T.Jf Qd (Za (Zb 0) Zd)) Zc) (QI (Zh G_is_whole (hr.mono (by first | decide | omega)) rfl T.ZG.m T.ZG.F.kp T.ZG.b Zs (Za (Zg (Zb 0) Zc) Zd)) (JK (Zh G_is_whole (hr.mono (by first | decide | omega)) rfl T.ZG.m T.ZG.F.kp T.ZG.b Zs (Za (Zg (Zb 0) Zc) Zd)))))))), fun xs M Φ h => ?_⟩
 replace h := Qa h
 obtain ⟨x1, rfl, h⟩ := h
 replace h := Qo h
 obtain ⟨d, rfl, h⟩ := h
 cases d with
 | tuple ds =>
  by_cases h2 : ds.length = 2
  ·obtain ⟨x, y, rfl⟩ := KJ h2
   walk_at "rk"
   cases x <;> cases y <;> simpa [ZM, Jr] using h
  ·rw [BS h2] at h
   walk_at "rk"
   refine Zl (fun z => absurd z (by omega)) fun _ => ?_
   exact h
 | _ =>
  walk_at "rk"
  simpa [Jr] using h
theorem DU (T : Tx K mg) : ZE P w K mg base CX0 3 T.KW T.X6 ["spot", "d", "other"] (lift K KL) := by
 have G_is_whole : ZE P w K mg base CX0 1 T.JB T.Jz ["thing"] (lift K spW) := Vn T
 have G_is_any_spot : ZE P w K mg base CX0 2 T.VA T.Vs ["thing"] (lift K Xe) := Wa T
 have G_steps : ZE P w K mg base CX0 1 T.Bg T.BN ["one", "other"] (lift K Bp) := Ov T
 refine okD T.YJ.F Dp (fun xs M Φ h => by obtain ⟨_, _, _, rfl, _⟩ := ZS h; rfl) fun cdv A outer s H E hr => ⟨_, (Zi (Zn (QI (Zh G_is_whole (hr.mono (by first | decide | omega)) rfl T.ZG.m T.ZG.F.kp T.ZG.b Zs (Za (Zb 1) Zd)) (QI (JP Mb (Zb 1) Zc) (QI (Zh G_is_any_spot (hr.mono (by first | decide | omega)) rfl T.Jt.m T.Jt.F.kp T.Jt.b Zs (Za (Zb 2) Zd)) (JK (JP (Q6 hr) (Zh G_steps (hr.mono (by first | decide | omega)) rfl T.o_steps.m T.o_steps.F.kp T.o_steps.b Zs (Za (Zb 0) (Za (Zb 2) Zd))) (Zb 1)))))))), fun xs M Φ h => ?_⟩
 replace h := ZS h
 obtain ⟨x1, x2, x3, rfl, h⟩ := h
 replace h := Qt h
 obtain ⟨u, v, rfl, h⟩ := h
 replace h := Qo h
 obtain ⟨n, rfl, h⟩ := h
 replace h := Qo h
 obtain ⟨o, rfl, h⟩ := h
 walk_at "rk"
 cases n with
 | int n =>
  rw [show ZM (.int n) = true from rfl]
  walk_at "rk"
  refine Zl (fun z => ?_) fun z => ?_
  ·cases qo : Jr o with
   | true =>
    obtain ⟨a, b, rfl⟩ := K0 qo
    walk_at "rk"
    rw [show awD u v (.int n) (.tuple [.int a, .int b]) = (decide (1 ≤ n) && decide (Z9 u v a b = n)) from rfl, decide_eq_true z, Bool.true_and] at h
    exact h
   | false =>
    have e : awD u v (.int n) o = false := by
     cases q : awD u v (.int n) o with
     | false => rfl
     | true =>
      obtain ⟨k, a, b, _, rfl, _⟩ := Gp q
      cases qo
    rw [e] at h
    exact h
  ·have e : awD u v (.int n) o = false := by
    cases q : awD u v (.int n) o with
    | false => rfl
    | true =>
     obtain ⟨k, a, b, e1, _, e3⟩ := Gp q
     cases e1
     unfold awB at e3
     rw [decide_eq_false z] at e3
     cases e3
   rw [e] at h
   exact h
 | _ => simpa [ZM, awD] using h
theorem Wh (T : Tx K mg) : ZE P w K mg base CX0 4 T.Vu T.Vt ["shape", "spot", "d"] (lift K W3) := by
 have G_steps_to : ZE P w K mg base CX0 3 T.Ve T.Vb ["box", "spot"] (lift K ZaU) := YC T
 refine okD T.Js.F K8 (fun xs M Φ h => by obtain ⟨_, _, _, rfl, _⟩ := ZS h; rfl) fun cdv A outer s H E hr => ⟨_, (Zi (Zn (Zj (Za9 rfl) rfl T.Zdt Tt (Za (Q2 false (ZQ (sc := Zf Qh) (XN := ["shape", "spot", "d"]) (N := ["box", "d", "spot"]) (ix := [none, some 2, some 1]) rfl rfl (by decide +kernel)) (X9 (Zb 0)) (fun C ex s H => (Zo 0 (show List.Nodup (["box", "d", "spot"] : List Str) by decide +kernel))) (fun C ex s H => Q1) (fun C ex s H => (JP Mb (Zh G_steps_to (hr.mono (by first | decide | omega)) rfl T.Qj.m T.Qj.F.kp T.Qj.b Zs (Za (Zb 0) (Za (Zb 2) Zd))) (Zb 1))) rfl) Zd)))), fun xs M Φ h => ?_⟩
 replace h := ZS h
 obtain ⟨x1, x2, x3, rfl, h⟩ := h
 replace h := Z0 h
 obtain ⟨bs, rfl, h⟩ := h
 replace h := Qt h
 obtain ⟨u, v, rfl, h⟩ := h
 replace h := ZO h
 obtain ⟨n, rfl, hl, h⟩ := h
 walk_at "rk"
 refine ⟨by rw [List.length_map]; omega, fun i acc M' => acc = ((bs.take i).map fun c => decide (n ≤ ZK c u v)).map PyData.bool ∧ M' = M, ⟨rfl, rfl⟩, ?_, ?_⟩
 ·rintro i d acc M' hd ⟨rfl, rfl⟩
  obtain ⟨b, eb, rfl⟩ := Qe hd
  walk_at "rk"
  rw [← take_snoc _ eb, List.map_append]
  rfl
 ·rintro acc M' ⟨rfl, rfl⟩
  refine ⟨_, rfl, ?_⟩
  rw [List.length_map, List.take_length, List.all_map]
  exact h
theorem L7 (T : Tx K mg) : ZE P w K mg base CX0 33 T.Br T.BE ["shape", "spot"] (lift K BC) := by
 have G_depth : ZE P w K mg base CX0 7 T.BV T.B0 ["shape", "spot"] (lift K BG) := NA T
 have G_nearest : ZE P w K mg base CX0 7 T.Kq T.K3 ["shape", "spot"] (lift K K4) := Dj T
 have G_covered : ZE P w K mg base CX0 32 T.K2 T.X7 ["shape", "box"] (lift K Kk) := Dg T
 have G_square : ZE P w K mg base CX0 1 T.Y6 T.YE ["spot", "r"] (lift K YY) := X8 T
 refine okD T.Yx.F Ux (fun xs M Φ h => by obtain ⟨_, _, rfl, _⟩ := Zz h; rfl) fun cdv A outer s H E hr => ⟨_, (Ze (Zr 2 Ux.nd (Zh G_depth (hr.mono (by first | decide | omega)) rfl T.UG.m T.UG.F.kp T.UG.b Zs (Za (Zb 0) (Za (Zb 1) Zd))))
 (Ze (Zr 3 Ux.nd (Zh G_nearest (hr.mono (by first | decide | omega)) rfl T.Y0.m T.Y0.F.kp T.Y0.b Zs (Za (Zb 0) (Za (Zb 1) Zd))))
 (Ze (Qf (ZF KA (Zb 2) Zc) (Zi (Zn (Zk (Za Z1 (Za (U1 (Zb 2)) (Za (Zb 3) Zd)))))) ZC)
 (Zi (Zn (Zk (Za Z1 (Za (Zb 2) (Za (Zb 3) (Za (Zg (Zh G_covered (hr.mono (by first | decide | omega)) rfl T.YX.m T.YX.F.kp T.YX.b Zs (Za (Zb 0) (Za (Zh G_square (hr.mono (by first | decide | omega)) rfl T.Jd.m T.Jd.F.kp T.Jd.b Zs (Za (Zb 1) (Za (Zm ZI (Zb 2) Zc) Zd))) Zd))) Zc) Zd)))))))))), fun xs M Φ h => ?_⟩
 replace h := Zz h
 obtain ⟨x1, x2, rfl, h⟩ := h
 replace h := Z0 h
 obtain ⟨bs, rfl, h⟩ := h
 replace h := Qt h
 obtain ⟨u, v, rfl, hs, h⟩ := h
 walk_at "hd"
 walk_at "rk"
 refine ⟨hs, fun d hd => ?_⟩
 walk_at "hd"
 walk_at "rk"
 refine ⟨hs, fun a b hab => ?_⟩
 have ln := hab d hd
 walk_at "hd"
 walk_at "rk"
 refine Zl (fun z => ?_) fun z => ?_
 ·have uv : anyB bs u v = false := by rw [hd.sg]; exact decide_eq_false (by omega)
  refine h (.out (-d) a b) trivial ⟨by rw [Int.neg_neg]; exact hd, ⟨?_, ?_⟩, uv⟩
  ·have := ln.o
   rw [uv] at this
   exact Bool.of_not_eq_false this
  ·have := ln.c
   have := QU d
   omega
 ·have hp : 0 < d := by have := hd.ne; omega
  have uv : anyB bs u v = true := by rw [hd.sg]; exact decide_eq_true hp
  have cv := Rn hd hp
  subst_vars
  walk_at "rk"
  refine ⟨⟨hs, ?_⟩, fun _ c hc dc => ?_, fun x y hl => absurd cv hl.not⟩
  ·rw [ZV]
   unfold Qn
   dsimp only
   omega
  ·walk_at "rk"
   refine h (.inn d a b c) dc ⟨hd, ⟨?_, ?_⟩, uv, hc⟩
   ·have := ln.o
    rw [uv] at this
    exact Bool.eq_false_iff.mpr this
   ·have := ln.c
    have := QU d
    omega
theorem We (T : Tx K mg) : ZE P w K mg base CX0 32 T.VB T.VD ["shape", "spot", "thing"] (lift K WY) := by
 have G_is_away : ZE P w K mg base CX0 3 T.KW T.X6 ["spot", "d", "other"] (lift K KL) := DU T
 have G_holds_cover : ZE P w K mg base CX0 31 T.QW T.Q4 ["shape", "box", "thing"] (lift K (XC 26)) := Wi T 26
 have G_lies_in : ZE P w K mg base CX0 5 T.VP T.VW ["shape", "spot"] (lift K GL) := XB T
 have G_none_nearer : ZE P w K mg base CX0 4 T.Vu T.Vt ["shape", "spot", "d"] (lift K W3) := Wh T
 have G_square : ZE P w K mg base CX0 1 T.Y6 T.YE ["spot", "r"] (lift K YY) := X8 T
 refine okD T.Jp.F Wg (fun xs M Φ h => by obtain ⟨_, _, _, rfl, _⟩ := ZS h; rfl) fun cdv A outer s H E hr => ⟨_, (Ze (Qf (DW.dt (Ye (Q7 (QE (Zj (VS (kit_tuple _)) rfl T.ZR ZN (Za (Zb 2) (Za (Kf rfl T.JI QY) Zd))))) (Ye (ZF KA (Zj Qc rfl T.Jf Qd (Za (Zb 2) Zd)) Zc) (Y4 (Q7 (QE (Zh G_is_away (hr.mono (by first | decide | omega)) rfl T.YJ.m T.YJ.F.kp T.YJ.b Zs (Za (Zb 1) (Za (Zg (Zb 2) Zc) (Za (Zg (Zb 2) Zc) Zd)))))))))) (Zi (Zn Jq)) ZC)
 (Ze (Qf (DW.dt (Y5 (ZF (Q6 hr) (Zj Qc rfl T.Jf Qd (Za (Zb 2) Zd)) Zc) (Xs (ZF (Q6 hr) (Zg (Zb 2) Zc) Z1)))) (Zi (Zn (QI (C2 (Zh G_lies_in (hr.mono (by first | decide | omega)) rfl T.Z5.m T.Z5.F.kp T.Z5.b Zs (Za (Zb 0) (Za (Zg (Zb 2) Zc) Zd)))) (JK (Zh G_holds_cover (hr.mono (by first | decide | omega)) rfl T.ZP.m T.ZP.F.kp T.ZP.b Zs (Za (Zb 0) (Za (Zh G_square (hr.mono (by first | decide | omega)) rfl T.Jd.m T.Jd.F.kp T.Jd.b Zs (Za (Zb 1) (Za (Zm ZI (Zg (Zb 2) Zc) Zc) Zd))) (Za (Zg (Zb 2) Zc) Zd)))))))) ZC)
 (Ze (Qf (DW.dt (Y5 (ZF (Q6 hr) (Zj Qc rfl T.Jf Qd (Za (Zb 2) Zd)) Zc) (Xs (ZF (Q6 hr) (Zg (Zb 2) Zc) Z1)))) (Zi (Zn (QI (Zh G_lies_in (hr.mono (by first | decide | omega)) rfl T.Z5.m T.Z5.F.kp T.Z5.b Zs (Za (Zb 0) (Za (Zg (Zb 2) Zc) Zd))) (JK (Zh G_none_nearer (hr.mono (by first | decide | omega)) rfl T.Js.m T.Js.F.kp T.Js.b Zs (Za (Zb 0) (Za (Zb 1) (Za (Zg (Zb 2) Zc) Zd)))))))) ZC)
 (Zi (Zn Jq))))), fun xs M Φ h => ?_⟩
 replace h := ZS h
 obtain ⟨x1, x2, x3, rfl, h⟩ := h
 replace h := Z0 h
 obtain ⟨bs, rfl, h⟩ := h
 replace h := Qt h
 obtain ⟨u, v, rfl, h⟩ := h
 replace h := Qo h
 obtain ⟨d, rfl, ⟨hs, hp⟩, h⟩ := h
 cases d with
 | tuple ds =>
  by_cases h4 : ds.length = 4
  ·obtain ⟨x, n, o, c, rfl⟩ := BH h4
   have e : QO bs u v (.tuple [x, n, o, c]) = (awD u v n o && (isS x (Str.ofString "in") && inD bs u v n o c)) := rfl
   rw [e] at h
   walk_at "hd"
   walk_at "rk"
   cases qa : awD u v n o with
   | false =>
    rw [qa] at h
    simpa using h
   | true =>
    rw [qa, Bool.true_and] at h
    obtain ⟨k, a, b, rfl, rfl, ha⟩ := Gp qa
    rw [if_neg (by decide)]
    walk_at "hd"
    walk_at "rk"
    refine VM hp.1 Zw ?_
    cases qx : isS x (Str.ofString "in") with
    | false =>
     rw [qx] at h
     walk_at "rk"
     subst_vars
     walk_at "rk"
     simpa using h
    | true =>
     rw [qx, Bool.true_and] at h
     walk_at "rk"
     have ei : inD bs u v (.int k) (.tuple [.int a, .int b]) c = (!anyB bs a b && ZH bs 26 (Qn u v (k - 1)) c) := rfl
     rw [ei] at h
     refine ⟨hs.2.1, ?_⟩
     cases qo : anyB bs a b with
     | true =>
      rw [qo] at h
      walk_at "rk"
      simpa using h
     | false =>
      rw [qo] at h
      walk_at "rk"
      exact ⟨hp.2, by simpa using h⟩
  ·by_cases h3 : ds.length = 3
   ·obtain ⟨x, n, o, rfl⟩ := W7 h3
    have e : QO bs u v (.tuple [x, n, o]) = (awD u v n o && (isS x (Str.ofString "out") && outD bs u v n o)) := rfl
    rw [e] at h
    walk_at "hd"
    walk_at "rk"
    cases qa : awD u v n o with
    | false =>
     rw [qa] at h
     simpa using h
    | true =>
     rw [qa, Bool.true_and] at h
     obtain ⟨k, a, b, rfl, rfl, ha⟩ := Gp qa
     rw [if_neg (by decide)]
     walk_at "hd"
     walk_at "rk"
     walk_at "hd"
     walk_at "rk"
     refine VM hp Zw ?_
     have ei : outD bs u v (.int k) (.tuple [.int a, .int b]) = (anyB bs a b && bs.all fun c => decide (k ≤ ZK c u v)) := rfl
     cases qx : isS x (Str.ofString "out") with
     | false =>
      rw [qx] at h
      subst_vars
      walk_at "rk"
      simpa using h
     | true =>
      rw [qx, Bool.true_and, ei] at h
      rw [if_pos rfl]
      refine ⟨hs.2.1, ?_⟩
      cases qo : anyB bs a b with
      | false =>
       rw [qo] at h
       simpa using h
      | true =>
       rw [qo, Bool.true_and] at h
       rw [if_pos rfl]
       exact ⟨hs.2.1, h⟩
   ·rw [EM h3 h4] at h
    walk_at "hd"
    walk_at "rk"
    refine Zl (fun _ => h) fun z => ?_
    obtain ⟨x0, x1, x2, r, rfl⟩ : ∃ x0 x1 x2 r, ds = x0 :: x1 :: x2 :: r := by
     match ds, z with
     | [], z => exact absurd (by decide) z
     | [_], z => exact absurd (by simp) z
     | [_, _], z => exact absurd (by simp) z
     | x0 :: x1 :: x2 :: r, _ => exact ⟨x0, x1, x2, r, rfl⟩
    refine JE (d := x1) (Vl (j := 1) rfl) (JE (d := x2) (Vl (j := 2) rfl) ?_)
    cases qa : awD u v x1 x2 with
    | false =>
     rw [if_pos (by decide)]
     exact h
    | true =>
     rw [if_neg (by decide)]
     walk_at "hd"
     walk_at "rk"
     refine Zl (fun y => absurd y (by simp only [List.length_cons] at h4; omega)) fun _ => ?_
     walk_at "hd"
     walk_at "rk"
     refine Zl (fun y => absurd y (by simp only [List.length_cons] at h3; omega)) fun _ => ?_
     subst_vars
     walk_at "rk"
     exact h
 | _ =>
  walk_at "hd"
  walk_at "rk"
  simpa [QO] using h
theorem ZaB (T : Tx K mg) : ZE P w K mg base CX0 1 T.Ru T.Rw ["_law_script", "_law_k"] (lift K E9) := by
 refine okD T.Mn.F EJ (fun xs M Φ h => by obtain ⟨_, _, rfl, _⟩ := Zz h; rfl) fun cdv A outer s H E hr => ⟨_, (Ze (Zr 2 EJ.nd Zc)
 (Ze (Qf (ZF R1 (Zj Qc rfl T.Jf Qd (Za (Zb 0) Zd)) Zc) (Zi (Zr 2 EJ.nd (Zg (Zb 0) (Zm YN (Zb 1) (Zj Qc rfl T.Jf Qd (Za (Zb 0) Zd)))))) ZC)
 (Ze (Qf (DW.dt (Y5 (ZF KA (Zb 1) (Zj Qc rfl T.Jf Qd (Za (Zb 0) Zd))) (Xs (ZF Mb (Zj Wy rfl T.Ec Ww (Za (Zb 2) Zd)) (Zm Km Zc Zc))))) (Zi (Zn (Q0 (Za (Zj Wy rfl T.Ec Ww (Za (Zb 2) Zd)) (Za Zc (Za Zc Zd)))))) ZC)
 (Zi (Zn (Q0 (Za Zc (Za (Zm YN (Zm Zy (Zm Zy (Zm YN (Zb 2) Zc) (Zm JH Zc (Zb 1))) Zc) Zc) (Za Zc Zd))))))))), fun xs M Φ h => ?_⟩
 replace h := Zz h
 obtain ⟨x1, x2, rfl, h⟩ := h
 replace h := Sg h
 obtain ⟨ns, rfl, h⟩ := h
 replace h := ZO h
 obtain ⟨k, rfl, h0, h⟩ := h
 have fin : ∀ c : Int, (0 : Int) < 2147483587 ∧ Tr 40709 k ∧ (0 : Int) < 2147483587 ∧ ∀ p, M p = none → Φ (.own p) (Z3 M p (.lst [.int 0, .int ((c % 2147483587 + 40709 * k + 31) % 2147483587), .int 0])) :=
  fun c => ⟨by decide, .inl (by decide), by decide, fun p hp => h p _ hp ⟨0, _, 0, Int.le_refl 0, Ef _ (by decide), Int.le_refl 0, rfl⟩⟩
 walk_at "hd"
 walk_at "rk"
 walk_at "hd"
 walk_at "rk"
 rw [List.length_map]
 refine Zl (fun hl => ?_) (fun hl => ?_)
 ·have hm := Ef k hl
  obtain ⟨c, hc⟩ := Sf (ns := ns) hm.1 hm.2
  refine ⟨hl, JE hc ?_⟩
  walk_at "hd"
  walk_at "rk"
  rw [List.length_map]
  refine Zl (fun h2 => ⟨RG _ (by decide), Zl (fun h3 => fun p hp => h p _ hp ⟨_, 0, 0, ?_, ⟨by decide, by decide⟩, Int.le_refl 0, rfl⟩) fun h3 => ?_⟩) fun h2 => ?_
  ·split <;> omega
  ·subst_vars
   walk_at "rk"
   exact ⟨(fin c).2.1, (fin c).2.2.2⟩
  ·subst_vars
   walk_at "rk"
   exact ⟨(fin c).2.1, (fin c).2.2.2⟩
 ·walk_at "hd"
  walk_at "rk"
  rw [List.length_map]
  refine Zl (fun h2 => absurd h2 (by omega)) fun h2 => ?_
  subst_vars
  walk_at "rk"
  exact ⟨(fin 5).2.1, (fin 5).2.2.2⟩
theorem Ym (T : Tx K mg) : ZE P w K mg base CX0 1 T.Y2 T.YQ ["_law_pen_here", "_law_many"] (lift K YF) := by
 refine okD T.Zp.F Ks (fun xs M Φ h => by obtain ⟨_, _, rfl, _⟩ := Zz h; rfl) fun cdv A outer s H E hr => ⟨_, (Ze (Qf (ZF R1 (Zg (Zb 0) Zc) Zc) (Ze (Zr 3 Ks.nd (Zm YN (Zg (Zb 0) Zc) (Zb 1)))
 (Ze (Vd (Zm CL (Zg (Zb 0) Zc) (Zb 1)) (EA (Zb 0) Zc))
 (Zi (Zn (Zb 3))))) ZC)
 (Ze (Vd (Zm Zy (Zg (Zb 0) Zc) Zc) (EA (Zb 0) Zc))
 (Ze (Zr 2 Ks.nd (Zm YN (Zm Zy (Zm Zy (Zm JH (Zg (Zb 0) Zc) Zc) (Zm JH (Zg (Zb 0) Zc) Zc)) Zc) Zc))
 (Ze (Zr 2 Ks.nd (Zm YN (Zm Zy (Zm JH (Zb 2) (Zb 2)) (Zg (Zb 0) Zc)) Zc))
 (Ze (Zr 2 Ks.nd (Zm YN (Zm JH (Zb 2) (Zm Zy (Zm YN (Zb 2) Zc) Zc)) Zc))
 (Zi (Zn (Zm YN (Zm EK (Zb 2) Zc) (Zb 1))))))))), fun xs M Φ h => ?_⟩
 replace h := Zz h
 obtain ⟨x1, x2, rfl, h⟩ := h
 replace h := Jm h
 obtain ⟨p, rfl, h⟩ := h
 replace h := ZO h
 obtain ⟨m, rfl, ⟨h0, h1⟩, hp, h⟩ := h
 obtain ⟨a, b, c, ⟨ha, hb, hc⟩, hp⟩ := hp.get
 have lg : m.natAbs.log2 < 9000 := Nat.lt_of_lt_of_le (XZ (k := 70) (by omega) (by decide)) (by decide)
 walk_at "hd"
 walk_at "rk"
 simp only [hp]
 walk_at "rk"
 refine Zl (fun h2 => ?_) fun h2 => ?_
 ·exact ⟨h0, ⟨h0, lg⟩, h _ _ (Ef a h0).1 (Ef a h0).2 (Fr.Z3 ⟨a / m, b, c, Int.ediv_nonneg ha (by omega), hb, hc, rfl⟩)⟩
 ·walk_at "hd"
  walk_at "rk"
  simp only [hp]
  walk_at "rk"
  walk_at "hd"
  walk_at "rk"
  refine ⟨.inr (by decide), .inr (by decide), ?_⟩
  walk_at "hd"
  walk_at "rk"
  refine ⟨.inl (by omega), ?_⟩
  walk_at "hd"
  walk_at "rk"
  refine ⟨.inl (by omega), ?_⟩
  subst_vars
  walk_at "rk"
  refine ⟨⟨by decide, by decide⟩, h0, ?_⟩
  exact h _ _ (Ef _ h0).1 (Ef _ h0).2 (Fr.Z3 ⟨a, b, c + 1, ha, hb, by omega, rfl⟩)
theorem PZ (T : Tx K mg) : ZE P w K mg base CX0 2 T.HC T.Ha ["_law_pen_here"] (lift K UQ) := by
 have G_draw : ZE P w K mg base CX0 1 T.Y2 T.YQ ["_law_pen_here", "_law_many"] (lift K YF) := Ym T
 refine okD T.CI.F Kw (fun xs M Φ h => by obtain ⟨_, rfl, _⟩ := Qa h; rfl) fun cdv A outer s H E hr => ⟨_, (Ze (Zr 1 Kw.nd (Qb (Za (Zh G_draw (hr.mono (by first | decide | omega)) rfl T.Zp.m T.Zp.F.kp T.Zp.b Zs (Za (Zb 0) (Za Zc Zd))) (Za (Zh G_draw (hr.mono (by first | decide | omega)) rfl T.Zp.m T.Zp.F.kp T.Zp.b Zs (Za (Zb 0) (Za Zc Zd))) Zd))))
 (Ze (CK 2 false Kw.nd (ZQ (sc := Zf Kx) (XN := ["_law_pen_here", "_law_low", "_law_high", "_law_thick", "_law_found"]) (N := ["_law_one", "_law_pen_here"]) (ix := [none, some 0]) rfl rfl (by decide +kernel)) (Yq (Zb 1)) (fun C ex s H => (Zo 0 (show List.Nodup (["_law_one", "_law_pen_here"] : List Str) by decide +kernel))) (fun C ex s H => Q1) (fun C ex s H => (Zm Zy (Zm Zy (Zb 0) Zc) (Zh G_draw (hr.mono (by first | decide | omega)) rfl T.Zp.m T.Zp.F.kp T.Zp.b Zs (Za (Zb 1) (Za Zc Zd))))) rfl)
 (Ze (Zr 3 Kw.nd (Zh G_draw (hr.mono (by first | decide | omega)) rfl T.Zp.m T.Zp.F.kp T.Zp.b Zs (Za (Zb 0) (Za Zc Zd))))
 (Ze (Zr 4 Kw.nd (Q0 (Za (Zk (Za (Zk (Za (Zg (Zb 1) Zc) (Za (Zg (Zb 1) Zc) Zd))) (Za (Zk (Za (Zg (Zb 2) Zc) (Za (Zm Zy (Zg (Zb 1) Zc) (Zb 3)) Zd))) Zd))) (Za (Zk (Za (Zk (Za (Zm ZI (Zg (Zb 2) Zc) (Zb 3)) (Za (Zg (Zb 1) Zc) Zd))) (Za (Zk (Za (Zg (Zb 2) Zc) (Za (Zg (Zb 2) Zc) Zd))) Zd))) Zd))))
 (Ze (J6 (Je (Zb 4) (Zk (Za (Zk (Za (Zg (Zb 1) Zc) (Za (Zm ZI (Zg (Zb 2) Zc) (Zb 3)) Zd))) (Za (Zk (Za (Zg (Zb 2) Zc) (Za (Zg (Zb 2) Zc) Zd))) Zd)))))
 (Zi (Zn (Zm Xw (Zb 4) (Qb (Za (Zk (Za (Zk (Za (Zg (Zb 1) Zc) (Za (Zg (Zb 1) Zc) Zd))) (Za (Zk (Za (Zm Zy (Zg (Zb 1) Zc) (Zb 3)) (Za (Zg (Zb 2) Zc) Zd))) Zd))) Zd)))))))))), fun xs M Φ h => ?_⟩
 replace h := Qa h
 obtain ⟨x1, rfl, h⟩ := h
 replace h := Jm h
 obtain ⟨p, rfl, hp, h⟩ := h
 walk_at "hd"
 walk_at "rk"
 refine ⟨hp, fun r1 M1 a1 b1 f1 => ⟨f1.1, fun r2 M2 a2 b2 f2 => ?_⟩⟩
 walk_at "hd"
 walk_at "rk"
 refine ⟨f2.1, fun s1 M3 c1 d1 f3 => ⟨f3.1, fun s2 M4 c2 d2 f4 => ?_⟩⟩
 walk_at "hd"
 walk_at "rk"
 refine ⟨f4.1, fun th M5 t0 t1 f5 => ?_⟩
 walk_at "hd"
 walk_at "rk"
 intro q hq
 walk_at "hd"
 walk_at "rk"
 subst_vars
 walk_at "rk"
 refine h [⟨r1, r2, r1 + 3 + s1, r2 + th⟩, ⟨r1 + 3 + s1 - th, r2, r1 + 3 + s1, r2 + 3 + s2⟩, ⟨r1, r2 + 3 + s2 - th, r1 + 3 + s1, r2 + 3 + s2⟩, ⟨r1, r2, r1 + th, r2 + 3 + s2⟩] _ ⟨by simp, by simp, ZeE fun b hb => ?_⟩ (f5.1.put (f5.1.ne hq))
 simp only [List.mem_cons, List.not_mem_nil, or_false] at hb
 rcases hb with rfl | rfl | rfl | rfl
 all_goals (dsimp only; omega)
theorem ZbL (T : Tx K mg) : ZE P w K mg base CX0 2 T.SO T.Sj ["_law_pen_here", "_law_box_here"] (lift K Rp) := by
 have G_draw : ZE P w K mg base CX0 1 T.Y2 T.YQ ["_law_pen_here", "_law_many"] (lift K YF) := Ym T
 refine okD T.B6.F WC (fun xs M Φ h => by obtain ⟨_, _, rfl, _⟩ := Zz h; rfl) fun cdv A outer s H E hr => ⟨_, (Ze (Zr 2 WC.nd (Q0 Zd))
 (Ze (Zr 3 WC.nd (Q0 Zd))
 (Ze (VE rfl T.QV (Za Zc Zd) (Zo 4 WC.nd) (Ze (Zr 5 WC.nd (Zj (VX rfl) rfl T.XQ VH (Za Zc (Za (Zm ZI (Zg (Zg (Zb 1) Zc) (Zb 4)) Zc) Zd))))
 (Ze (Zr 6 WC.nd (Zm Zy (Zb 5) (Zh G_draw (hr.mono (by first | decide | omega)) rfl T.Zp.m T.Zp.F.kp T.Zp.b Zs (Za (Zb 0) (Za (Zm Zy (Zm ZI (Zj (Yk rfl) rfl T.Xh Vf (Za Zc (Za (Zm Zy (Zg (Zg (Zb 1) Zc) (Zb 4)) Zc) Zd))) (Zb 5)) Zc) Zd)))))
 (Ze (J6 (Je (Zb 2) (Zj (VX rfl) rfl T.XQ VH (Za Zc (Za (Zm ZI (Zb 6) (Zg (Qb (Za Zc (Za Zc (Za Zc (Za Zc (Za Zc Zd)))))) (Zh G_draw (hr.mono (by first | decide | omega)) rfl T.Zp.m T.Zp.F.kp T.Zp.b Zs (Za (Zb 0) (Za Zc Zd))))) Zd)))))
 (Zi (J6 (Je (Zb 3) (Zj (Yk rfl) rfl T.Xh Vf (Za Zc (Za (Zm Zy (Zb 6) (Zg (Qb (Za Zc (Za Zc (Za Zc (Za Zc (Za Zc Zd)))))) (Zh G_draw (hr.mono (by first | decide | omega)) rfl T.Zp.m T.Zp.F.kp T.Zp.b Zs (Za (Zb 0) (Za Zc Zd))))) Zd))))))))) PassesOwn.never rfl)
 (Zi (Zn (Zk (Za (Qq J7 rfl T.JI QY (Za (Zb 2) Zd)) (Za (Qq J7 rfl T.JI QY (Za (Zb 3) Zd)) Zd)))))))), fun xs M Φ h => ?_⟩
 replace h := Zz h
 obtain ⟨x1, x2, rfl, h⟩ := h
 replace h := Jm h
 obtain ⟨p, rfl, h⟩ := h
 replace h := ZY h
 obtain ⟨b, rfl, hb, hp, h⟩ := h
 have ok := ZV.mp hb.1
 have hb2 := hb.2
 walk_at "hd"
 walk_at "rk"
 intro q1 hq1
 walk_at "hd"
 walk_at "rk"
 intro q2 hq2
 have n1 : q1 ≠ p := Ne.symm (hp.ne hq1)
 have n12 : q2 ≠ q1 := fresh_ne hq2
 have hq2' : M q2 = none := (Qm n12).symm.trans hq2
 have n2 : q2 ≠ p := Ne.symm (hp.ne hq2')
 walk_at "hd"
 walk_at "rk"
 refine ⟨⟨by decide, by decide⟩, fun j Δ M2 => ∃ (k4 k5 k6 : Option DV) (bs es : List Int), Δ = [some (.own p), some (.dat (bD b)), some (.own q1), some (.own q2), k4, k5, k6] ∧ bs.length = j ∧ es.length = j ∧
  (∀ (i : Nat) (a b : Int), bs[i]? = some a → es[i]? = some b → 0 ≤ a ∧ a ≤ b ∧ b ≤ 11) ∧ M2 q1 = some (.lst (bs.map PyData.int)) ∧ M2 q2 = some (.lst (es.map PyData.int)) ∧ Fr p M M2,
  ⟨none, none, none, [], [], rfl, rfl, rfl, fun i a b ha => (nomatch ha), by rw [Qm (Ne.symm n12), ZU]; rfl, ZU, Fr.new (Fr.new (Fr.refl hp) hq1 n1) hq2' n2⟩, ?_, ?_⟩
 ·rintro j Δ M2 hj ⟨k4, k5, k6, bs, es, rfl, l1, l2, hbs, h1, h2, hF⟩
  obtain ⟨lo, hi, hlo, e1, e2⟩ := ZfO (x := b.x) (y := b.y) (X := b.X) (Y := b.Y) hj
  have hlo' : 0 ≤ lo ∧ lo ≤ hi ∧ hi ≤ 11 := by
   rcases hlo with ⟨rfl, rfl⟩ | ⟨rfl, rfl⟩ <;> omega
  walk_at "hd"
  walk_at "rk"
  simp only [e1]
  walk_at "rk"
  walk_at "hd"
  walk_at "rk"
  simp only [e2]
  walk_at "rk"
  refine ⟨by omega, hF.1, fun r M3 r0 r1 f3 => ?_⟩
  have g1 := f3.own h1 n1
  have g2 := f3.own h2 n2
  walk_at "hd"
  walk_at "rk"
  simp only [g1]
  walk_at "rk"
  refine ⟨f3.1, fun r2 M4 a2 b2 f4 => tab (l := [0, 0, 1, 2, 5]) (fun w => 0 ≤ w) a2 (by simp only [List.length_cons, List.length_nil]; omega) (by decide) fun w1 c1 => ?_⟩
  have g3 := f4.own g1 n1
  have g4 := f4.own g2 n2
  walk_at "rk"
  simp only [g3]
  walk_at "rk"
  refine ⟨by rw [List.length_map]; omega, ?_⟩
  subst_vars
  walk_at "rk"
  simp only [Qm n12, g4]
  walk_at "rk"
  refine ⟨f4.1.put (Ne.symm n1), fun r3 M5 a3 b3 f5 => tab (l := [0, 1, 2, 3, 6]) (fun w => 0 ≤ w) a3 (by simp only [List.length_cons, List.length_nil]; omega) (by decide) fun w2 c2 => ?_⟩
  have g5 := f5.own ZU n1
  have g6 := f5.own ((Qm n12).trans g4) n2
  walk_at "rk"
  simp only [g6]
  walk_at "rk"
  refine ⟨by rw [List.length_map]; omega, _, _, _, bs ++ [max 0 ((max 0 (lo - 1) + r) - w1)], es ++ [min 11 ((max 0 (lo - 1) + r) + w2)], rfl, by rw [List.length_append]; rfl, by rw [List.length_append, l2]; rfl, ?_, ?_, ?_, ?_⟩
  ·exact Ms (R := fun a b => 0 ≤ a ∧ a ≤ b ∧ b ≤ 11) l2.symm hbs (by omega)
  ·rw [Qm (Ne.symm n12), g5, List.map_append]
   rfl
  ·rw [List.map_append]
   rfl
  ·exact Fr.new ((Fr.new ((hF.trans f3).trans f4) hq1 n1).trans f5) hq2' n2
 ·rintro Δ M2 ⟨k4, k5, k6, bs, es, rfl, l1, l2, hbs, h1, h2, hF⟩
  subst_vars
  walk_at "rk"
  obtain ⟨a, b, rfl⟩ := BJ l1
  obtain ⟨c, d, rfl⟩ := BJ l2
  have k0 := hbs 0 a c rfl rfl
  have k1 := hbs 1 b d rfl rfl
  simp only [h1, h2]
  walk_at "rk"
  exact h ⟨a, b, c, d⟩ M2 ⟨ZV.mpr (by dsimp only; omega), by dsimp only; omega⟩ hF
theorem N8 (T : Tx K mg) : ZE P w K mg base CX0 3 T.BA T.Bv ["_law_pen_here"] (lift K UQ) := by
 have G_draw : ZE P w K mg base CX0 1 T.Y2 T.YQ ["_law_pen_here", "_law_many"] (lift K YF) := Ym T
 have G_hole : ZE P w K mg base CX0 2 T.HC T.Ha ["_law_pen_here"] (lift K UQ) := PZ T
 have G_box : ZE P w K mg base CX0 2 T.SO T.Sj ["_law_pen_here", "_law_box_here"] (lift K Rp) := ZbL T
 refine okD T.WV.F Yb (fun xs M Φ h => by obtain ⟨_, rfl, _⟩ := Qa h; rfl) fun cdv A outer s H E hr => ⟨_, (Ze (Zr 1 Yb.nd (Zh G_draw (hr.mono (by first | decide | omega)) rfl T.Zp.m T.Zp.F.kp T.Zp.b Zs (Za (Zb 0) (Za Zc Zd))))
 (Ze (Qf (ZF (Q6 hr) (Zb 1) Zc) (Zi (Zn (Zh G_hole (hr.mono (by first | decide | omega)) rfl T.CI.m T.CI.F.kp T.CI.b Zs (Za (Zb 0) Zd)))) ZC)
 (Ze (Zr 2 Yb.nd (Q0 (Za (Zh G_box (hr.mono (by first | decide | omega)) rfl T.B6.m T.B6.F.kp T.B6.b Zs (Za (Zb 0) (Za (Zk (Za (Zk (Za Zc (Za Zc Zd))) (Za (Zk (Za Zc (Za Zc Zd))) Zd))) Zd))) Zd)))
 (Ze (Qf (ZF (Q6 hr) (Zb 1) Zc) (Ze (Vd (Zg (Zb 2) Zc) (JZ (n := 2) rfl (ZD (Zo 4 Yb.nd) (ZD (Zo 5 Yb.nd) QZ))))
 (Zi (Zn (Zm Xw (Zb 2) (Qb (Za (Zk (Za (Zk (Za (Zj (Yk rfl) rfl T.Xh Vf (Za Zc (Za (Zm Zy (Zg (Zb 5) Zc) Zc) Zd))) (Za (Zg (Zb 4) Zc) Zd))) (Za (Zk (Za (Zj (Yk rfl) rfl T.Xh Vf (Za Zc (Za (Zm Zy (Zm Zy (Zg (Zb 5) Zc) Zc) (Zh G_draw (hr.mono (by first | decide | omega)) rfl T.Zp.m T.Zp.F.kp T.Zp.b Zs (Za (Zb 0) (Za Zc Zd)))) Zd))) (Za (Zg (Zb 5) Zc) Zd))) Zd))) Zd)))))) ZC)
 (Ze (VE rfl T.QV (Za (Zg (Qb (Za Zc (Za Zc (Za Zc (Za Zc (Za Zc (Za Zc Zd))))))) (Zh G_draw (hr.mono (by first | decide | omega)) rfl T.Zp.m T.Zp.F.kp T.Zp.b Zs (Za (Zb 0) (Za Zc Zd)))) Zd) (Zo 3 Yb.nd) (Zi (J6 (Je (Zb 2) (Zh G_box (hr.mono (by first | decide | omega)) rfl T.B6.m T.B6.F.kp T.B6.b Zs (Za (Zb 0) (Za (Zg (Zb 2) (U1 Zc)) Zd)))))) PassesOwn.never rfl)
 (Zi (Zn (CM (Zb 2))))))))), fun xs M Φ h => ?_⟩
 replace h := Qa h
 obtain ⟨x1, rfl, h⟩ := h
 replace h := Jm h
 obtain ⟨p, rfl, hp, h⟩ := h
 walk_at "hd"
 walk_at "rk"
 refine ⟨hp, fun r1 M1 a1 b1 f1 => ?_⟩
 walk_at "hd"
 walk_at "rk"
 refine Zl (fun h0 => ⟨f1.1, h⟩) fun h0 => ?_
 walk_at "hd"
 walk_at "rk"
 refine ⟨⟨rfl, by decide, by decide⟩, f1.1, fun b M2 hb f2 q hq => ?_⟩
 have n1 : p ≠ q := f2.1.ne hq
 walk_at "hd"
 walk_at "rk"
 have ok := ZV.mp hb.1
 have hb2 := hb.2
 refine Zl (fun h1 => ?_) fun h1 => ?_
 ·refine ⟨f2.1.put n1, fun r2 M3 a2 b2 f3 => ?_⟩
  simp only [f3.own ZU (Ne.symm n1)]
  walk_at "rk"
  refine h [b, ⟨min 11 (b.X + 1), b.y, min 11 (b.X + 1 + r2), b.Y⟩] M3 ⟨by simp, by simp, ZeE fun c hc => ?_⟩ f3.1
  simp only [List.mem_cons, List.not_mem_nil, or_false] at hc
  rcases hc with rfl | rfl
  ·exact ⟨ok.1, ok.2, hb2⟩
  ·dsimp only
   omega
 ·walk_at "hd"
  walk_at "rk"
  refine ⟨f2.1.put n1, fun r2 M3 a2 b2 f3 => tab (l := [0, 1, 1, 2, 2, 5]) (fun w => 0 ≤ w ∧ w ≤ 5) a2 (by simp only [List.length_cons, List.length_nil]; omega) (by decide) fun m hm => ?_⟩
  walk_at "rk"
  refine ⟨⟨by omega, by omega⟩, fun i Δ M' => ∃ (cs : List B4) (b : B4) (k3 k4 k5 : Option DV), Δ = [some (.own p), some (.dat (.int r1)), some (.own q), k3, k4, k5] ∧ cs.length = i ∧ (∀ c ∈ cs ++ [b], Cel c) ∧ M' q = some (.lst (cs.map bD ++ [bD b])) ∧ Pen M' p,
    ⟨[], b, _, _, _, rfl, rfl, fun c hc => by rw [List.mem_singleton.mp hc]; exact hb, f3.own ZU (Ne.symm n1), f3.1⟩, ?_, ?_⟩
  ·rintro i Δ M' hi ⟨cs, b, k3, k4, k5, rfl, hl, hcs, hq', hP⟩
   walk_at "rk"
   simp only [hq']
   walk_at "rk"
   refine ⟨hcs b (List.mem_append_right _ (List.mem_singleton.mpr rfl)), hP, fun c' M4 hc' f4 => ?_⟩
   simp only [f4.own hq' (Ne.symm n1)]
   walk_at "rk"
   refine ⟨by rw [List.length_append, List.length_map, List.length_singleton]; omega, cs ++ [b], c', _, _, _, rfl, by rw [List.length_append, hl]; rfl, fun z hz => ?_, by rw [List.map_append]; rfl, f4.1.put n1⟩
   rcases List.mem_append.mp hz with hz | hz
   ·exact hcs z hz
   ·rw [List.mem_singleton.mp hz]
    exact hc'
  ·rintro Δ M' ⟨cs, b, k3, k4, k5, rfl, hl, hcs, hq', hP⟩
   subst_vars
   walk_at "rk"
   simp only [hq']
   walk_at "rk"
   rw [show cs.map bD ++ [bD b] = (cs ++ [b]).map bD by rw [List.map_append]; rfl]
   exact h _ _ ⟨by rw [List.length_append, List.length_singleton]; omega, by rw [List.length_append, List.length_singleton]; omega, hcs⟩ (hP.del n1)
theorem Dd (T : Tx K mg) : ZE P w K mg base CX0 2 T.KQ T.KH ["_law_pen_here"] (lift K Up) := by
 have G_draw : ZE P w K mg base CX0 1 T.Y2 T.YQ ["_law_pen_here", "_law_many"] (lift K YF) := Ym T
 refine okD T.YO.F Xp (fun xs M Φ h => by obtain ⟨_, rfl, _⟩ := Qa h; rfl) fun cdv A outer s H E hr => ⟨_, (Ze (Zr 1 Xp.nd (Zg (Qb (Za Zc (Za Zc (Za Zc (Za Zc (Za (Zm Zy Zc (Zh G_draw (hr.mono (by first | decide | omega)) rfl T.Zp.m T.Zp.F.kp T.Zp.b Zs (Za (Zb 0) (Za (Zm Km Zc Zc) Zd)))) (Za Zc Zd))))))) (Zh G_draw (hr.mono (by first | decide | omega)) rfl T.Zp.m T.Zp.F.kp T.Zp.b Zs (Za (Zb 0) (Za Zc Zd)))))
 (Ze (CK 2 false Xp.nd (ZQ (sc := Zf JJ) (XN := ["_law_pen_here", "_law_times", "_law_begins"]) (N := ["_law_way", "_law_pen_here"]) (ix := [none, some 0]) rfl rfl (by decide +kernel)) (KG rfl T.QV (Za Zc Zd)) (fun C ex s H => (Zo 0 (show List.Nodup (["_law_way", "_law_pen_here"] : List Str) by decide +kernel))) (fun C ex s H => Q1) (fun C ex s H => (Zg (Qb (Za Zc (Za (Zm ZI (Zh G_draw (hr.mono (by first | decide | omega)) rfl T.Zp.m T.Zp.F.kp T.Zp.b Zs (Za (Zb 1) (Za (Zm Km Zc Zc) Zd))) (Zm JH Zc (Zm Km Zc Zc))) Zd))) (Zh G_draw (hr.mono (by first | decide | omega)) rfl T.Zp.m T.Zp.F.kp T.Zp.b Zs (Za (Zb 1) (Za Zc Zd))))) rfl)
 (Zi (Zn (Zk (Za (Zb 1) (Za (Zg (Zb 2) Zc) (Za (Zg (Zb 2) Zc) Zd)))))))), fun xs M Φ h => ?_⟩
 replace h := Qa h
 obtain ⟨x1, rfl, h⟩ := h
 replace h := Jm h
 obtain ⟨p, rfl, hp, h⟩ := h
 walk_at "hd"
 walk_at "rk"
 refine ⟨RG _ (by decide), hp, fun r1 M1 a1 b1 f1 => ⟨f1.1, fun r2 M2 a2 b2 f2 => tab (l := [1, 1, 2, 3, 1 + r1, 1]) (fun t => 1 ≤ t ∧ t ≤ 10 ^ 10) a2 (by simp only [List.length_cons, List.length_nil]; omega) (fun w hw => ?_) fun t ht => ?_⟩⟩
 ·simp only [List.mem_cons, List.not_mem_nil, or_false] at hw
  omega
 walk_at "hd"
 walk_at "rk"
 have one : ∀ (M : Mp) (Q : PyData → Mp → Prop), Pen M p → (∀ w M', (-(10 ^ 12) ≤ w ∧ w ≤ 10 ^ 12) → Fr p M M' → Q (.int w) M') → T4 10 12 ∧ Pen M p ∧ ∀ r M', 0 ≤ r → r < 1000000000000 → Fr p M M' → T4 10 11 ∧ Tr 5 100000000000 ∧ Pen M' p ∧ ∀ r' M'', 0 ≤ r' → r' < 2 → Fr p M' M'' → Ku [.int 0, .int (r - 500000000000)] r' fun d => Q d M'' := fun M Q hP k =>
  ⟨RG _ (by decide), hP, fun r M' a b f => ⟨RG _ (by decide), .inl (by decide), f.1, fun r' M'' a' b' f' => tab (l := [0, r - 500000000000]) (fun w => -(10 ^ 12) ≤ w ∧ w ≤ 10 ^ 12) a' (by simp only [List.length_cons, List.length_nil]; omega) (fun w hw => by
   simp only [List.mem_cons, List.not_mem_nil, or_false] at hw
   omega) fun w hw => k w M'' hw (f.trans f')⟩⟩
 refine ⟨⟨by decide, by decide⟩, one M2 _ f2.1 fun w M3 hw f3 => one M3 _ f3.1 fun w' M4 hw' f4 => ?_⟩
 subst_vars
 walk_at "rk"
 exact h t w w' M4 ⟨ht, hw, hw'⟩ f4.1
theorem Rj (T : Tx K mg) : ZE P w K mg base CX0 1 T.HU T.FF ["_law_boxes_here", "_law_frame_here"] (lift K He) := by
 refine okG T.Cz.F VR (fun xs M Φ h => by obtain ⟨_, _, rfl, _⟩ := Zz h; rfl) fun cdv A outer s H E hr => ⟨_, (Ze (Vd (Zb 1) (JZ (n := 3) rfl (ZD (Zo 3 VR.nd) (ZD (Zo 4 VR.nd) (ZD (Zo 5 VR.nd) QZ)))))
 (Ze (Zr 2 VR.nd (Q0 Zd))
 (Ze (Ub (Zb 0) (JZ (n := 2) rfl (ZD (Zo 6 VR.nd) (ZD (Zo 7 VR.nd) QZ))) (Ze (Zr 8 VR.nd (Zk (Za (Zm Zy (Zm JH (Zg (Zb 6) Zc) (Zb 3)) (Zb 4)) (Za (Zm Zy (Zm JH (Zg (Zb 6) Zc) (Zb 3)) (Zb 5)) Zd))))
 (Zi (J6 (Je (Zb 2) (Zk (Za (Zb 8) (Za (Zk (Za (Zm Zy (Zm ZI (Zm Zy (Zm JH (Zg (Zb 7) Zc) (Zb 3)) (Zb 3)) Zc) (Zb 4)) (Za (Zm Zy (Zm ZI (Zm Zy (Zm JH (Zg (Zb 7) Zc) (Zb 3)) (Zb 3)) Zc) (Zb 5)) Zd))) Zd))))))) PassesOwn.never rfl)
 (Zi (Zn (Qq J7 rfl T.JI QY (Za (Zb 2) Zd))))))), fun xs M Φ h => ?_⟩
 replace h := Zz h
 obtain ⟨x1, x2, rfl, h⟩ := h
 replace h := Be h
 obtain ⟨bs, rfl, h⟩ := h
 replace h := X5 h
 obtain ⟨f, ox, oy, rfl, hs, h⟩ := h
 walk_at "hd"
 walk_at "rk"
 walk_at "hd"
 walk_at "rk"
 intro q hq
 walk_at "hd"
 walk_at "rk"
 refine ⟨fun i Δ M' => ∃ k6 k7 k8, Δ = [some (.dat (.list (bs.map bD))), some (.dat (.tuple [.int f, .int ox, .int oy])), some (.own q), some (.dat (.int f)), some (.dat (.int ox)), some (.dat (.int oy)), k6, k7, k8] ∧ M' = Z3 M q (.lst (((bs.take i).map (VJ f ox oy)).map bD)), ⟨none, none, none, rfl, rfl⟩, ?_, ?_⟩
 ·rintro i d Δ M' hd ⟨k6, k7, k8, rfl, rfl⟩
  obtain ⟨b, eb, rfl⟩ := Qe hd
  have hb := hs.2.2 _ (List.mem_of_getElem? eb)
  have ok := ZV.mp hb.1
  have hb2 := hb.2
  walk_at "rk"
  refine ⟨.inl (by omega), .inl (by omega), .inl (by omega), .inl (by omega), by rw [List.length_map, List.length_map, List.length_take]; have := hs.2.1; omega, _, _, _, rfl, ?_⟩
  rw [← take_snoc (VJ f ox oy) eb, List.map_append]
  rfl
 ·rintro Δ M' ⟨k6, k7, k8, rfl, rfl⟩
  rw [List.length_map, List.take_length]
  subst_vars
  walk_at "rk"
  exact Tw hq h
theorem Na (T : Tx K mg) : ZE P w K mg base CX0 1 T.Bz T.BQ ["_law_boxes_here"] (lift K Bu) := by
 refine okD T.Ul.F V9 (fun xs M Φ h => by obtain ⟨_, rfl, _⟩ := Qa h; rfl) fun cdv A outer s H E hr => ⟨_, (Ze (Zr 1 V9.nd H0)
 (Ze (Ub (Zb 0) (JZ (n := 2) rfl (ZD (Zo 2 V9.nd) (ZD (Zo 3 V9.nd) QZ))) (Zi (X3 rfl T.QV (Za (Zg (Zb 2) Zc) (Za (Zm Zy (Zg (Zb 3) Zc) Zc) Zd)) (Zo 4 V9.nd) (Zi (X3 rfl T.QV (Za (Zg (Zb 2) Zc) (Za (Zm Zy (Zg (Zb 3) Zc) Zc) Zd)) (Zo 5 V9.nd) (Zi (P2 hr (Zb 1) (Za (Zb 4) (Za (Zb 5) Zd)) Jq)) PassesOwn.never rfl)) PassesOwn.never rfl)) PassesOwn.never rfl)
 (Zi (Zn (Zb 1))))), fun xs M Φ h => ?_⟩
 replace h := Qa h
 obtain ⟨x1, rfl, h⟩ := h
 replace h := Be h
 obtain ⟨bs, rfl, hs, h⟩ := h
 walk_at "hd"
 walk_at "rk"
 intro q hq
 walk_at "hd"
 walk_at "rk"
 refine ⟨fun n Δ M' => ∃ (k2 k3 k4 k5 : Option DV) (ks : List (List Key)), Δ = [some (.dat (.list (bs.map bD))), some (.own q), k2, k3, k4, k5] ∧ M' = Z3 M q (.dct ks) ∧ (∀ i j, kP i j ∈ ks ↔ ((bs.take n).any fun b => hasB b i j) = true) ∧ ks.length ≤ n * 144, ⟨none, none, none, none, [], rfl, rfl, fun i j => ?_, Nat.zero_le _⟩, ?_, ?_⟩
 ·simp
 ·rintro n d Δ M' hd ⟨k2, k3, k4, k5, ks, rfl, rfl, hk, hl⟩
  obtain ⟨b, eb, rfl⟩ := Qe hd
  have hn : n < bs.length := (List.getElem?_eq_some_iff.mp eb).1
  have hb := hs.2.2 _ (List.mem_of_getElem? eb)
  have ok := ZV.mp hb.1
  have hb2 := hb.2
  have h6 := hs.2.1
  walk_at "rk"
  refine ⟨⟨⟨by omega, by omega⟩, by omega, by omega⟩, fun a Δ M' => ∃ (k4 k5 : Option DV) (ks : List (List Key)), Δ = [some (.dat (.list (bs.map bD))), some (.own q), some (.dat (.tuple [.int b.x, .int b.y])), some (.dat (.tuple [.int b.X, .int b.Y])), k4, k5] ∧ M' = Z3 M q (.dct ks) ∧
   (∀ i j, kP i j ∈ ks ↔ (((bs.take n).any fun b => hasB b i j) = true ∨ (b.x ≤ i ∧ i < b.x + (a : Int) ∧ b.y ≤ j ∧ j ≤ b.Y))) ∧ ks.length ≤ n * 144 + a * 12, ⟨k4, k5, ks, rfl, rfl, fun i j => ?_, by omega⟩, ?_, ?_⟩
  ·rw [hk]
   exact ⟨.inl, fun z => z.elim id fun z => by omega⟩
  ·rintro a Δ M' ha ⟨k4, k5, ks, rfl, rfl, hk2, hl2⟩
   walk_at "rk"
   refine ⟨⟨⟨by omega, by omega⟩, by omega, by omega⟩, fun c Δ M' => ∃ (k5 : Option DV) (ks : List (List Key)), Δ = [some (.dat (.list (bs.map bD))), some (.own q), some (.dat (.tuple [.int b.x, .int b.y])), some (.dat (.tuple [.int b.X, .int b.Y])), some (.dat (.int (b.x + (a : Int)))), k5] ∧ M' = Z3 M q (.dct ks) ∧
    (∀ i j, kP i j ∈ ks ↔ ((((bs.take n).any fun b => hasB b i j) = true ∨ (b.x ≤ i ∧ i < b.x + (a : Int) ∧ b.y ≤ j ∧ j ≤ b.Y)) ∨ (i = b.x + (a : Int) ∧ b.y ≤ j ∧ j < b.y + (c : Int)))) ∧ ks.length ≤ n * 144 + a * 12 + c, ⟨k5, ks, rfl, rfl, fun i j => ?_, by omega⟩, ?_, ?_⟩
   ·rw [hk2]
    exact ⟨.inl, fun z => z.elim id fun z => by omega⟩
   ·rintro c Δ M' hc ⟨k5, ks, rfl, rfl, hk3, hl3⟩
    walk_at "rk"
    refine ⟨by omega, _, LJ ks (kP (b.x + (a : Int)) (b.y + (c : Int))), rfl, rfl, fun i j => ?_, by have := Ng ks (kP (b.x + (a : Int)) (b.y + (c : Int))); omega⟩
    rw [Ot, hk3, Zci]
    constructor
    ·rintro (z | z)
     ·rcases z with z | z
      ·exact .inl z
      ·exact .inr (by omega)
     ·exact .inr (by omega)
    ·rintro (z | z)
     ·exact .inl (.inl z)
     ·by_cases c' : j = b.y + (c : Int)
      ·exact .inr (by omega)
      ·exact .inl (.inr (by omega))
   ·rintro Δ M' ⟨k5, ks, rfl, rfl, hk3, hl3⟩
    refine ⟨_, _, ks, rfl, rfl, fun i j => ?_, by omega⟩
    rw [hk3]
    constructor
    ·rintro ((z | z) | z)
     ·exact .inl z
     ·exact .inr (by omega)
     ·exact .inr (by omega)
    ·rintro (z | z)
     ·exact .inl (.inl z)
     ·by_cases c : i = b.x + (a : Int)
      ·exact .inr (by omega)
      ·exact .inl (.inr (by omega))
  ·rintro Δ M' ⟨k4, k5, ks, rfl, rfl, hk2, hl2⟩
   refine ⟨_, _, _, _, ks, rfl, rfl, fun i j => ?_, by omega⟩
   rw [hk2, Mg _ eb, Bool.or_eq_true, Zv]
   constructor
   ·exact fun z => z.elim .inl fun z => .inr (by omega)
   ·exact fun z => z.elim .inl fun z => .inr (by omega)
 ·rintro Δ M' ⟨k2, k3, k4, k5, ks, rfl, rfl, hk, hl⟩
  rw [List.length_map, List.take_length] at hk
  subst_vars
  walk_at "rk"
  refine h q ks hq fun i j => ?_
  rw [Bool.eq_iff_iff, L9]
  exact hk i j
theorem Sn (T : Tx K mg) : ZE P w K mg base CX0 2 T.Hs T.Hq ["_law_pen_here", "_law_frame_here"] (lift K B1) := by
 have G_draw : ZE P w K mg base CX0 1 T.Y2 T.YQ ["_law_pen_here", "_law_many"] (lift K YF) := Ym T
 refine okD T.Kv.F W0 (fun xs M Φ h => by obtain ⟨_, _, rfl, _⟩ := Zz h; rfl) fun cdv A outer s H E hr => ⟨_, (Ze (Zr 2 W0.nd (Q0 Zd))
 (Ze (VE rfl T.QV (Za Zc Zd) (Zo 3 W0.nd) (Ze (Zr 4 W0.nd (Zm Zy (Zm JH (Zm ZI (Zh G_draw (hr.mono (by first | decide | omega)) rfl T.Zp.m T.Zp.F.kp T.Zp.b Zs (Za (Zb 0) (Za Zc Zd))) Zc) (Zg (Zb 1) Zc)) (Zg (Zb 1) (Zm Zy Zc (Zb 3)))))
 (Zi (J6 (Je (Zb 2) (Zm Zy (Zb 4) (Zg (Qb (Za Zc (Za (Zm ZI (Zg (Zb 1) Zc) Zc) (Za (Zh G_draw (hr.mono (by first | decide | omega)) rfl T.Zp.m T.Zp.F.kp T.Zp.b Zs (Za (Zb 0) (Za (Zg (Zb 1) Zc) Zd))) Zd)))) (Zh G_draw (hr.mono (by first | decide | omega)) rfl T.Zp.m T.Zp.F.kp T.Zp.b Zs (Za (Zb 0) (Za Zc Zd))))))))) PassesOwn.never rfl)
 (Ze (Qf (ZF (Q6 hr) (Zh G_draw (hr.mono (by first | decide | omega)) rfl T.Zp.m T.Zp.F.kp T.Zp.b Zs (Za (Zb 0) (Za Zc Zd))) Zc) (Zi (Vd (Zm Zy (Zm ZI (Zh G_draw (hr.mono (by first | decide | omega)) rfl T.Zp.m T.Zp.F.kp T.Zp.b Zs (Za (Zb 0) (Za (Zm ZI (Zm JH Zc (Zm Km Zc Zc)) Zc) Zd))) (Zm Km Zc Zc)) Zc) (EA (Zb 2) (Zh G_draw (hr.mono (by first | decide | omega)) rfl T.Zp.m T.Zp.F.kp T.Zp.b Zs (Za (Zb 0) (Za Zc Zd)))))) ZC)
 (Zi (Zn (Qq J7 rfl T.JI QY (Za (Zb 2) Zd))))))), fun xs M Φ h => ?_⟩
 replace h := Zz h
 obtain ⟨x1, x2, rfl, h⟩ := h
 replace h := Jm h
 obtain ⟨p, rfl, h⟩ := h
 replace h := X5 h
 obtain ⟨t, ox, oy, rfl, hf, hp, h⟩ := h
 have hf' := hf
 unfold Frm at hf'
 walk_at "hd"
 walk_at "rk"
 intro q hq
 have n1 : p ≠ q := hp.ne hq
 walk_at "hd"
 walk_at "rk"
 refine ⟨⟨by decide, by decide⟩, fun j Δ M2 => ∃ (k4 k5 : Option DV) (ns : List Int), Δ = [some (.own p), some (.dat (.tuple [.int t, .int ox, .int oy])), some (.own q), k4, k5] ∧ (ns.length = j ∧ ∀ x ∈ ns, Wth x) ∧ M2 q = some (.lst (ns.map PyData.int)) ∧ Fr p M M2,
  ⟨none, none, [], rfl, ⟨rfl, fun _ z => by cases z⟩, ZU, Fr.new (Fr.refl hp) hq (Ne.symm n1)⟩, ?_, ?_⟩
 ·rintro j Δ M2 hj ⟨k4, k5, ns, rfl, ⟨hl, hb⟩, hq2, hF⟩
  obtain ⟨o, ho, eo⟩ := Zfm (t := t) (ox := ox) (oy := oy) hj
  walk_at "hd"
  walk_at "rk"
  refine ⟨hF.1, fun r1 M3 a1 b1 f3 => ⟨.inl (by omega), ?_⟩⟩
  have g3 := f3.own hq2 (Ne.symm n1)
  simp only [eo]
  walk_at "rk"
  subst_vars
  walk_at "rk"
  simp only [g3]
  walk_at "rk"
  refine ⟨by omega, f3.1, fun r2 M4 a2 b2 f4 => ⟨f4.1, fun r3 M5 a3 b3 f5 => tab (l := [0, t - 1, r2]) (fun w => 0 ≤ w ∧ w ≤ t) a3 (by simp only [List.length_cons, List.length_nil]; omega) (fun w hw => by simp only [List.mem_cons, List.not_mem_nil, or_false] at hw; omega) fun w hw => ?_⟩⟩
  have g5 := f5.own (f4.own g3 (Ne.symm n1)) (Ne.symm n1)
  walk_at "rk"
  simp only [g5]
  walk_at "rk"
  refine ⟨by rw [List.length_map]; omega, _, _, ns ++ [(r1 - 2) * t + o + w], rfl, ⟨by rw [List.length_append]; rfl, fun x hx => ?_⟩, by rw [List.map_append]; rfl, Fr.new (((hF.trans f3).trans f4).trans f5) hq (Ne.symm n1)⟩
  rcases List.mem_append.mp hx with hx | hx
  ·exact hb x hx
  ·rw [List.mem_singleton.mp hx]
   exact OH (by omega) (by omega) a1 b1 hw
 ·rintro Δ M2 ⟨k4, k5, ns, rfl, ⟨hl, hb⟩, hq2, hF⟩
  obtain ⟨a, b, rfl⟩ := BJ hl
  have ha := hb a (.head _)
  have hb := hb b (.tail _ (.head _))
  walk_at "hd"
  walk_at "rk"
  refine ⟨hF.1, fun r1 M3 a1 b1 f3 => ?_⟩
  have g3 := f3.own hq2 (Ne.symm n1)
  refine Zl (fun h0 => ?_) fun h0 => ?_
  ·refine ⟨RG _ (by decide), .inl (by decide), f3.1, fun r2 M4 a2 b2 f4 => ⟨RG _ (by decide), f4.1, fun r4 M6 a4 b4 f6 => ?_⟩⟩
   have g6 := f6.own (f4.own g3 (Ne.symm n1)) (Ne.symm n1)
   simp only [g6]
   walk_at "rk"
   have two : r4 = 0 ∨ r4 = 1 := by omega
   rcases two with rfl | rfl
   ·refine ⟨0, rfl, ?_⟩
    subst_vars
    walk_at "rk"
    exact h _ b _ ⟨by unfold Wth; omega, hb⟩ (Fr.new (((hF.trans f3).trans f4).trans f6) hq (Ne.symm n1))
   ·refine ⟨1, rfl, ?_⟩
    subst_vars
    walk_at "rk"
    exact h a _ _ ⟨ha, by unfold Wth; omega⟩ (Fr.new (((hF.trans f3).trans f4).trans f6) hq (Ne.symm n1))
  ·subst_vars
   walk_at "rk"
   simp only [g3]
   walk_at "rk"
   exact h a b _ ⟨ha, hb⟩ (hF.trans f3)
theorem N6 (T : Tx K mg) : ZE P w K mg base CX0 1 T.BW T.Bq ["_law_cell", "_law_frame_here", "_law_spot_here"] (lift K Lc) := by
 refine okD T.Uj.F YU (fun xs M Φ h => by obtain ⟨_, _, _, rfl, _⟩ := ZS h; rfl) fun cdv A outer s H E hr => ⟨_, (Ze (Zr 3 YU.nd Zc)
 (Ze (VE rfl T.QV (Za Zc Zd) (Zo 4 YU.nd) (Ze (Zr 5 YU.nd (Zm Zy (Zm JH (Zg (Zb 0) (Zb 4)) (Zg (Zb 1) Zc)) (Zg (Zb 1) (Zm Zy Zc (Zb 4)))))
 (Zi (Zr 3 YU.nd (Zj (Fl rfl) rfl T.XQ VH (Za (Zb 3) (Za (Zm ZI (Zb 5) (Zg (Zb 2) (Zb 4))) (Za (Zm Zy (Zm ZI (Zm ZI (Zg (Zb 2) (Zb 4)) (Zb 5)) (Zg (Zb 1) Zc)) Zc) Zd))))))) PassesOwn.never rfl)
 (Zi (Zn (Zb 3))))), fun xs M Φ h => ?_⟩
 replace h := ZS h
 obtain ⟨x1, x2, x3, rfl, h⟩ := h
 replace h := Qt h
 obtain ⟨i, j, rfl, h⟩ := h
 replace h := X5 h
 obtain ⟨t, ox, oy, rfl, h⟩ := h
 replace h := Qt h
 obtain ⟨u, v, rfl, ⟨hi, hj⟩, h⟩ := h
 walk_at "hd"
 walk_at "rk"
 walk_at "hd"
 walk_at "rk"
 refine ⟨⟨by decide, by decide⟩, S9 ?_⟩
 walk_at "rk"
 refine ⟨.inl (by omega), .inl (by omega), ?_⟩
 subst_vars
 walk_at "rk"
 rw [TV]
 exact h
theorem Fi (T : Tx K mg) : ZE P w K mg base CX0 2 T.W5 T.UC ["_law_cells_here", "_law_frame_here", "_law_spot_here"] (lift K W4) := by
 have G_l_gap : ZE P w K mg base CX0 1 T.BW T.Bq ["_law_cell", "_law_frame_here", "_law_spot_here"] (lift K Lc) := N6 T
 refine okD T.XU.F Va (fun xs M Φ h => by obtain ⟨_, _, _, rfl, _⟩ := ZS h; rfl) fun cdv A outer s H E hr => ⟨_, (Ze (Zr 3 Va.nd (Qq J7 rfl T.JI QY (Za (Mr false (ZQ (sc := Zf Vq) (XN := ["_law_cells_here", "_law_frame_here", "_law_spot_here", "_law_here", "_law_inside", "_law_found", "_law_x", "_law_y"]) (N := ["_law_way", "_law_frame_here", "_law_spot_here"]) (ix := [none, some 1, some 2]) rfl rfl (by decide +kernel)) (KG rfl T.QV (Za Zc Zd)) (fun C ex s H => (Zo 0 (show List.Nodup (["_law_way", "_law_frame_here", "_law_spot_here"] : List Str) by decide +kernel))) (fun C ex s H => Q1) (fun C ex s H => (Zm CL (Zm ZI (Zg (Zb 2) (Zb 0)) (Zg (Zb 1) (Zm Zy Zc (Zb 0)))) (Zg (Zb 1) Zc))) rfl) Zd)))
 (Ze (Zr 4 Va.nd (JP (Pj hr) (Zb 3) (Zb 0)))
 (Ze (Zr 5 Va.nd (Q0 Zd))
 (Ze (X3 rfl T.QV (Za (U1 Zc) (Za Zc Zd)) (Zo 6 Va.nd) (Zi (X3 rfl T.QV (Za (U1 Zc) (Za Zc Zd)) (Zo 7 Va.nd) (Zi (Qf (ZF (Bn hr) (JP (Pj hr) (Zk (Za (Zb 6) (Za (Zb 7) Zd))) (Zb 0)) (Zb 4)) (Zi (J6 (Je (Zb 5) (Zk (Za (Zk (Za (Zb 6) (Za (Zb 7) Zd))) (Za (Zh G_l_gap (hr.mono (by first | decide | omega)) rfl T.Uj.m T.Uj.F.kp T.Uj.b Zs (Za (Zk (Za (Zb 6) (Za (Zb 7) Zd))) (Za (Zb 1) (Za (Zb 2) Zd)))) Zd)))))) ZC)) PassesOwn.never rfl)) PassesOwn.never rfl)
 (Zi (Zn (Zk (Za (Zb 4) (Za (CM (Zb 5)) Zd))))))))), fun xs M Φ h => ?_⟩
 replace h := ZS h
 obtain ⟨x1, x2, x3, rfl, h⟩ := h
 replace h := X5 h
 obtain ⟨t, ox, oy, rfl, h⟩ := h
 replace h := Qt h
 obtain ⟨u, v, rfl, h⟩ := h
 replace h := H9 h
 obtain ⟨l, ks, bs, rfl, hl, hk, hf, h⟩ := h
 have hf' := hf
 unfold Frm at hf'
 have lg : t.natAbs.log2 < 9000 := Nat.lt_of_lt_of_le (XZ (k := 70) (by omega) (by decide)) (by decide)
 walk_at "hd"
 walk_at "rk"
 refine ⟨⟨by decide, by decide⟩, ⟨by omega, lg⟩, ⟨by omega, lg⟩, ?_⟩
 walk_at "hd"
 walk_at "rk"
 simp only [hl]
 walk_at "rk"
 rw [hk]
 unfold Oth at h
 generalize anyB bs ((u - ox) / t) ((v - oy) / t) = S at h ⊢
 walk_at "hd"
 walk_at "rk"
 intro p hp
 have hlp : l ≠ p := fun z => by rw [z, hp] at hl; cases hl
 walk_at "hd"
 walk_at "rk"
 refine ⟨⟨⟨by decide, by decide⟩, by decide, by decide⟩, fun a Δ M2 => ∃ (k3 k6 k7 : Option DV) (cs : List (Int × Int)), Δ = [some (.own l), some (.dat (.tuple [.int t, .int ox, .int oy])), some (.dat (.tuple [.int u, .int v])), k3, some (.dat (.bool S)), some (.own p), k6, k7] ∧ M2 = Z3 M p (.lst (cs.map (Tp t ox oy u v))) ∧
   (∀ i j, (i, j) ∈ cs ↔ (-1 ≤ i ∧ i < -1 + (a : Int) ∧ -1 ≤ j ∧ j ≤ 12 ∧ anyB bs i j ≠ S)) ∧ cs.length ≤ a * 14, ⟨_, _, _, [], rfl, rfl, fun i j => ?_, Nat.zero_le _⟩, ?_, ?_⟩
 ·constructor
  ·intro z
   cases z
  ·intro z
   omega
 ·rintro a Δ M2 ha ⟨k3, k6, k7, cs, rfl, rfl, hc, hlen⟩
  walk_at "rk"
  refine ⟨⟨⟨by decide, by decide⟩, by decide, by decide⟩, fun b Δ M2 => ∃ (k7 : Option DV) (cs : List (Int × Int)), Δ = [some (.own l), some (.dat (.tuple [.int t, .int ox, .int oy])), some (.dat (.tuple [.int u, .int v])), k3, some (.dat (.bool S)), some (.own p), some (.dat (.int (-1 + (a : Int)))), k7] ∧ M2 = Z3 M p (.lst (cs.map (Tp t ox oy u v))) ∧
    (∀ i j, (i, j) ∈ cs ↔ ((-1 ≤ i ∧ i < -1 + (a : Int) ∧ -1 ≤ j ∧ j ≤ 12 ∧ anyB bs i j ≠ S) ∨ (i = -1 + (a : Int) ∧ -1 ≤ j ∧ j < -1 + (b : Int) ∧ anyB bs i j ≠ S))) ∧ cs.length ≤ a * 14 + b, ⟨_, cs, rfl, rfl, fun i j => ?_, by omega⟩, ?_, ?_⟩
  ·rw [hc]
   exact ⟨.inl, fun z => z.elim id fun z => by omega⟩
  ·rintro b Δ M2 hb ⟨k7, cs, rfl, rfl, hc2, hlen2⟩
   walk_at "rk"
   simp only [Qm hlp, hl]
   walk_at "rk"
   rw [hk]
   by_cases c : anyB bs (-1 + (a : Int)) (-1 + (b : Int)) = S
   ·rw [c, beq_self_eq_true, if_neg (by decide)]
    refine ⟨_, cs, rfl, rfl, fun i j => ?_, by omega⟩
    rw [hc2]
    constructor
    ·rintro (z | ⟨z1, z2, z3, z4⟩)
     ·exact .inl z
     ·exact .inr ⟨z1, z2, by omega, z4⟩
    ·rintro (z | ⟨z1, z2, z3, z4⟩)
     ·exact .inl z
     ·by_cases e : j = -1 + (b : Int)
      ·rw [z1, e] at z4
       exact absurd c z4
      ·exact .inr ⟨z1, z2, by omega, z4⟩
   ·rw [beq_eq_false_iff_ne.mpr c, if_pos (by decide)]
    refine ⟨⟨by omega, by omega⟩, by rw [List.length_map]; omega, _, cs ++ [(-1 + (a : Int), -1 + (b : Int))], rfl, by rw [List.map_append]; rfl, fun i j => ?_, by rw [List.length_append, List.length_singleton]; omega⟩
    rw [List.mem_append, List.mem_singleton, hc2, Prod.mk.injEq]
    constructor
    ·rintro ((z | ⟨z1, z2, z3, z4⟩) | ⟨z1, z2⟩)
     ·exact .inl z
     ·exact .inr ⟨z1, z2, by omega, z4⟩
     ·exact .inr ⟨z1, by omega, by omega, by rw [z1, z2]; exact c⟩
    ·rintro (z | ⟨z1, z2, z3, z4⟩)
     ·exact .inl (.inl z)
     ·by_cases e : j = -1 + (b : Int)
      ·exact .inr ⟨z1, e⟩
      ·exact .inl (.inr ⟨z1, z2, by omega, z4⟩)
  ·rintro Δ M2 ⟨k7, cs, rfl, rfl, hc2, hlen2⟩
   refine ⟨_, _, _, cs, rfl, rfl, fun i j => ?_, by omega⟩
   rw [hc2]
   constructor
   ·rintro (⟨z1, z2, z3, z4, z5⟩ | ⟨z1, z2, z3, z5⟩)
    ·exact ⟨z1, by omega, z3, z4, z5⟩
    ·exact ⟨by omega, by omega, z2, by omega, z5⟩
   ·rintro ⟨z1, z2, z3, z4, z5⟩
    by_cases c : i = -1 + (a : Int)
    ·exact .inr ⟨c, z3, by omega, z5⟩
    ·exact .inl ⟨z1, by omega, z3, z4, z5⟩
 ·rintro Δ M2 ⟨k3, k6, k7, cs, rfl, rfl, hc, hlen⟩
  subst_vars
  walk_at "rk"
  rw [YV hp]
  refine h cs (fun i j => ?_) (by omega)
  rw [hc]
  constructor
  ·rintro ⟨z1, z2, z3, z4, z5⟩
   exact ⟨⟨⟨z1, by omega⟩, z3, z4⟩, z5⟩
  ·rintro ⟨⟨⟨z1, z2⟩, z3, z4⟩, z5⟩
   exact ⟨z1, by omega, z3, z4, z5⟩
theorem C1 (T : Tx K mg) : ZE P w K mg base CX0 1 T.Ua T.WH ["_law_one", "_law_box_here"] (lift K C5) := by
 refine okD T.Yw.F WN (fun xs M Φ h => by obtain ⟨_, _, rfl, _⟩ := Zz h; rfl) fun cdv A outer s H E hr => ⟨_, (Ze (Vd (Zb 1) (JZ (n := 2) rfl (ZD (Zo 2 WN.nd) (ZD (Zo 3 WN.nd) QZ))))
 (Ze (Qf (DW.dt (Ye (ZF KA (Zg (Zb 2) Zc) (Zg (Zg (Zb 0) Zc) Zc)) (Y4 (ZF KA (Zg (Zb 2) Zc) (Zg (Zg (Zb 0) Zc) Zc))))) (Zi (Zn Jq)) ZC)
 (Zi (Zn (QI (JP Yv (Zg (Zb 3) Zc) (Zg (Zg (Zb 0) Zc) Zc)) (JK (JP Yv (Zg (Zb 3) Zc) (Zg (Zg (Zb 0) Zc) Zc)))))))), fun xs M Φ h => ?_⟩
 replace h := Zz h
 obtain ⟨x1, x2, rfl, h⟩ := h
 replace h := ZY h
 obtain ⟨c, rfl, h⟩ := h
 replace h := ZY h
 obtain ⟨b, rfl, h⟩ := h
 unfold inB at h
 walk_at "hd"
 walk_at "rk"
 walk_at "hd"
 walk_at "rk"
 refine Zl (fun z => ?_) fun z => Zl (fun z1 => ?_) fun z1 => ?_
 ·rw [decide_eq_false (by omega)] at h
  exact h
 ·rw [decide_eq_false (by omega)] at h
  exact h
 ·subst_vars
  walk_at "rk"
  refine Zl (fun z2 => ?_) fun z2 => ?_
  ·rw [show decide (c.x ≤ b.x ∧ c.y ≤ b.y ∧ b.X ≤ c.X ∧ b.Y ≤ c.Y) = decide (b.Y ≤ c.Y) from decide_eq_decide.mpr (by omega)] at h
   exact h
  ·rw [decide_eq_false (by omega)] at h
   exact h
theorem NM (T : Tx K mg) : ZE P w K mg base CX0 1 T.BD T.Bm ["_law_box_here", "_law_way", "_law_at"] (lift K G1) := by
 refine okD T.UA.F WO (fun xs M Φ h => by obtain ⟨_, _, _, rfl, _⟩ := ZS h; rfl) fun cdv A outer s H E hr => ⟨_, (Ze (Vd (Zb 0) (JZ (n := 2) rfl (ZD (Zo 3 WO.nd) (ZD (Zo 4 WO.nd) QZ))))
 (Ze (Qf (ZF (Q6 hr) (Zb 1) Zc) (Zi (Zn (Qb (Za (Zk (Za (Zb 3) (Za (Zk (Za (Zb 2) (Za (Zg (Zb 4) Zc) Zd))) Zd))) (Za (Zk (Za (Zk (Za (Zm Zy (Zb 2) Zc) (Za (Zg (Zb 3) Zc) Zd))) (Za (Zb 4) Zd))) Zd))))) ZC)
 (Zi (Zn (Qb (Za (Zk (Za (Zb 3) (Za (Zk (Za (Zg (Zb 4) Zc) (Za (Zb 2) Zd))) Zd))) (Za (Zk (Za (Zk (Za (Zg (Zb 3) Zc) (Za (Zm Zy (Zb 2) Zc) Zd))) (Za (Zb 4) Zd))) Zd))))))), fun xs M Φ h => ?_⟩
 replace h := ZS h
 obtain ⟨x1, x2, x3, rfl, h⟩ := h
 replace h := ZY h
 obtain ⟨b, rfl, h⟩ := h
 replace h := ZO h
 obtain ⟨i, rfl, h⟩ := h
 replace h := ZO h
 obtain ⟨a, rfl, hi, h⟩ := h
 unfold upB owB at h
 rcases hi with rfl | rfl
 ·walk_at "hd"
  walk_at "rk"
  subst_vars
  walk_at "rk"
  exact h
 ·walk_at "hd"
  walk_at "rk"
  subst_vars
  walk_at "rk"
  subst_vars
  walk_at "rk"
  exact h
theorem Ui (T : Tx K mg) : ZE P w K mg base CX0 1 T.Kr T.K1 ["_law_thing"] (lift K ZaI) := by
 refine okD T.Qg.F Nh (fun xs M Φ h => by obtain ⟨_, rfl, _⟩ := Qa h; rfl) fun cdv A outer s H E hr => ⟨_, (Zi (Zn (QI (Zj (VS (Fz _)) rfl T.ZR ZN (Za (Zb 0) (Za (Kf rfl T.Zag O1) Zd))) (JK (C2 (Zj (VS (W6 _)) rfl T.ZR ZN (Za (Zb 0) (Za (Kf rfl T.Gi KU) Zd)))))))), fun xs M Φ h => ?_⟩
 replace h := Qa h
 obtain ⟨x1, rfl, h⟩ := h
 replace h := Qo h
 obtain ⟨d, rfl, h⟩ := h
 walk_at "rk"
 cases d <;> simpa [ZT, tyN, ZM] using h
theorem WK (T : Tx K mg) : ZE P w K mg base CX0 2 T.VN T.V3 ["_law_shape", "_law_box_here", "_law_paper"] (lift K FG) := by
 have G_l_has : ZE P w K mg base CX0 1 T.Ua T.WH ["_law_one", "_law_box_here"] (lift K C5) := C1 T
 have G_whole : ZE P w K mg base CX0 1 T.Kr T.K1 ["_law_thing"] (lift K ZaI) := Ui T
 refine okD T.JQ.F WM (fun xs M Φ h => by obtain ⟨_, _, _, rfl, _⟩ := ZS h; rfl) fun cdv A outer s H E hr => ⟨_, (Ze (Qf (DW.dt (Ye (ZF (Bn hr) (Zg (Zb 2) Zc) Z1) (Ye (Q7 (QE (Zh G_whole (hr.mono (by first | decide | omega)) rfl T.Qg.m T.Qg.F.kp T.Qg.b Zs (Za (Zg (Zb 2) Zc) Zd)))) (Y4 (Q7 (UE Yv KA Zc (Zg (Zb 2) Zc) (Zj Qc rfl T.Jf Qd (Za (Zb 0) Zd)))))))) (Zi (Zn Jq)) ZC)
 (Zi (Zn (Zh G_l_has (hr.mono (by first | decide | omega)) rfl T.Yw.m T.Yw.F.kp T.Yw.b Zs (Za (Zg (Zb 0) (Zg (Zb 2) Zc)) (Za (Zb 1) Zd)))))), fun xs M Φ h => ?_⟩
 replace h := ZS h
 obtain ⟨x1, x2, x3, rfl, h⟩ := h
 replace h := Z0 h
 obtain ⟨bs, rfl, h⟩ := h
 replace h := ZY h
 obtain ⟨b, rfl, h⟩ := h
 replace h := XE h
 obtain ⟨ds, rfl, x, k, rfl, ⟨hl, hb⟩, h⟩ := h
 walk_at "hd"
 walk_at "rk"
 refine VM hl Zw ?_
 cases q : isS x (Str.ofString "box") with
 | false =>
  rw [q] at h
  walk_at "rk"
  simpa using h
 | true =>
  rw [q, Bool.true_and] at h
  walk_at "rk"
  cases k with
  | int k =>
   have el : Ke bs b (.int k) = (Ds bs k && (match bs[k.toNat]? with | some c => allB c b | none => false)) := rfl
   rw [el] at h
   unfold ZM
   walk_at "rk"
   rw [List.length_map]
   unfold Ds at h
   refine Zl (fun z0 => ?_) fun z0 => ?_
   ·by_cases z1 : k < bs.length
    ·rw [decide_eq_true z0, decide_eq_true z1] at h
     rw [decide_eq_true z1]
     subst_vars
     walk_at "rk"
     obtain ⟨c, ec⟩ : ∃ c, bs[k.toNat]? = some c := ⟨_, List.getElem?_eq_getElem (by omega)⟩
     rw [ec] at h
     obtain ⟨j, rfl⟩ := Int.eq_ofNat_of_zero_le z0
     refine JE (d := bD c) (Vl (by rw [List.getElem?_map]; rw [Int.toNat_natCast] at ec; rw [ec]; rfl)) ?_
     walk_at "rk"
     rw [Zab hb]
     simpa using h
    ·rw [decide_eq_false z1] at h
     rw [decide_eq_false z1]
     walk_at "rk"
     simpa using h
   ·rw [decide_eq_false z0] at h
    simpa using h
  | _ =>
   unfold ZM
   walk_at "rk"
   simpa [Ke] using h
theorem Mw (T : Tx K mg) : ZE P w K mg base CX0 3 T.Bh T.Bb ["_law_shape", "_law_box_here", "_law_thing"] (lift K (Fy 26)) := by
 have G_parts : ZE P w K mg base CX0 1 T.BD T.Bm ["_law_box_here", "_law_way", "_law_at"] (lift K G1) := NM T
 have G_leaf_holds : ZE P w K mg base CX0 2 T.VN T.V3 ["_law_shape", "_law_box_here", "_law_paper"] (lift K FG) := WK T
 have G_whole : ZE P w K mg base CX0 1 T.Kr T.K1 ["_law_thing"] (lift K ZaI) := Ui T
 refine okD T.Ug.F JW (fun xs M Φ h => by obtain ⟨_, _, _, rfl, _⟩ := ZS h; rfl) fun cdv A outer s H E hr => ⟨_, (Ze (Zr 3 JW.nd (Q0 (Za (Zk (Za (Zb 1) (Za (Zb 2) Zd))) Zd)))
 (Ze (Mt (ZF (MT hr) (Zb 3) (Qb Zd)) (Ze (Vd (Zco (Zb 3)) (JZ (n := 2) rfl (ZD (Zo 4 JW.nd) (ZD (Zo 5 JW.nd) QZ))))
 (Ze (Qf (DW.dt (Ye (Q7 (QE (Zj (VS (kit_tuple _)) rfl T.ZR ZN (Za (Zb 5) (Za (Kf rfl T.JI QY) Zd))))) (Y4 (ZF (WU hr) (Zj Qc rfl T.Jf Qd (Za (Zb 5) Zd)) (Zk (Za Zc (Za Zc Zd))))))) (Zi (Zn Jq)) ZC)
 (Zi (Qf (ZF (Q6 hr) (Zj Qc rfl T.Jf Qd (Za (Zb 5) Zd)) Zc) (Zi (Qf (Q7 (QE (Zh G_leaf_holds (hr.mono (by first | decide | omega)) rfl T.JQ.m T.JQ.F.kp T.JQ.b Zs (Za (Zb 0) (Za (Zb 4) (Za (Zb 5) Zd)))))) (Zi (Zn Jq)) ZC)) (Ze (Vd (Ez (Zb 5) (JL Zc) (JL Zc)) (JZ (n := 2) rfl (ZD (Zo 7 JW.nd) (ZD (Zo 8 JW.nd) QZ))))
 (Ze (Qf (DW.dt (Ye (ZF (Bn hr) (Zg (Zb 5) Zc) Z1) (Ye (Q7 (QE (Zh G_whole (hr.mono (by first | decide | omega)) rfl T.Qg.m T.Qg.F.kp T.Qg.b Zs (Za (Zb 7) Zd)))) (Ye (Q7 (QE (Zh G_whole (hr.mono (by first | decide | omega)) rfl T.Qg.m T.Qg.F.kp T.Qg.b Zs (Za (Zb 8) Zd)))) (Y4 (ZF (WU hr) (Zb 7) (Zk (Za Zc (Za Zc Zd))))))))) (Zi (Zn Jq)) ZC)
 (Ze (Qf (Q7 (UE Yv KA (Zg (Zg (Zb 4) Zc) (Zb 7)) (Zb 8) (Zg (Zg (Zb 4) Zc) (Zb 7)))) (Zi (Zn Jq)) ZC)
 (Ze (Zr 6 JW.nd (Zh G_parts (hr.mono (by first | decide | omega)) rfl T.UA.m T.UA.F.kp T.UA.b Zs (Za (Zb 4) (Za (Zb 7) (Za (Zb 8) Zd)))))
 (Zi (Zr 3 JW.nd (Zm Nc (Zb 3) (Qb (Za (Zk (Za (Zg (Zb 6) Zc) (Za (Zg (Zb 5) Zc) Zd))) (Za (Zk (Za (Zg (Zb 6) Zc) (Za (Zg (Zb 5) Zc) Zd))) Zd)))))))))))))) PassesOwn.never)
 (Zi (Zn Jq)))), fun xs M Φ h => ?_⟩
 replace h := ZS h
 obtain ⟨x1, x2, x3, rfl, h⟩ := h
 replace h := Z0 h
 obtain ⟨bs, rfl, h⟩ := h
 replace h := ZY h
 obtain ⟨b, rfl, h⟩ := h
 replace h := Qo h
 obtain ⟨d, rfl, ⟨hp, hb, hn⟩, h⟩ := h
 walk_at "hd"
 walk_at "rk"
 intro q hq
 walk_at "hd"
 walk_at "rk"
 generalize hR : ZH bs 26 b d = R at h
 refine ⟨Zdm bs b d M R, ⟨_, q, [(b, d)], _, _, _, _, _, rfl, ZU, hq, (Ext.refl M).new hq, ⟨⟨fun e he => ?_, ?_⟩, fun j e he => ?_⟩, rfl⟩, ?_⟩
 ·rw [List.mem_singleton.mp he]
  exact ⟨hb, hp⟩
 ·simp [hR]
 ·cases j with
  | zero => cases he; exact hp
  | succ j => cases he
 clear hR hp hb hn
 intro n Δ M1 hJ
 clear hq q
 obtain ⟨q, ws, x4, x5, x6, x7, x8, rfl, hM, hq, hE, ⟨hW, hD⟩, rfl⟩ := hJ
 walk_at "rk"
 rw [hM]
 walk_at "rk"
 rcases List.eq_nil_or_concat ws with rfl | ⟨ws, e, rfl⟩
 ·subst_vars
  walk_at "rk"
  simp only [List.isEmpty_nil, Bool.not_true, Bool.false_eq_true, if_false]
  have := hW.2
  simp only [List.all_nil] at this
  rw [← this] at h
  exact h _ hE
 ·rw [List.concat_eq_append] at hM hW hD ⊢
  have ne : (!(List.map wD (ws ++ [e])).isEmpty) = true := by simp
  rw [if_pos ne]
  refine ⟨ws.map wD, wD e, by rw [List.map_append]; rfl, ?_⟩
  obtain ⟨b', d'⟩ := e
  refine ZfP (x := bD b') (y := d') ?_
  have hl := hW.last.1
  have E1 : Ext M (Z3 M1 q (OO.lst (ws.map wD))) := hE.new hq
  cases d' with
  | tuple ds =>
   by_cases h2 : ds.length = 2
   ·obtain ⟨x, k, rfl⟩ := KJ h2
    have e : ZH bs 26 b' (.tuple [x, k]) = (isS x (Str.ofString "box") && Ke bs b' k) := rfl
    walk_at "hd"
    walk_at "rk"
    refine ⟨rfl, ?_⟩
    subst_vars
    walk_at "rk"
    refine ⟨_, _, rfl, ⟨hl.2, hl.1⟩, ?_⟩
    rw [← e]
    cases hd : ZH bs 26 b' (.tuple [x, k]) with
    | false =>
     rw [hW.no hd] at h
     walk_at "rk"
     exact h _ E1
    | true =>
     walk_at "rk"
     refine ⟨_, ?_, q, ws, _, _, _, _, _, rfl, ZU, hq, E1, ⟨hW.drop hd, hD.drop⟩, rfl⟩
     rw [Cc]
     exact Nat.lt_add_of_pos_right (size_pos _)
   ·by_cases h5 : ds.length = 5
    ·obtain ⟨x, i, a, p, q', rfl⟩ := KC h5
     have e : ZH bs 26 b' (.tuple [x, i, a, p, q']) = (isS x (Str.ofString "cut") && (YH b' i a && (ZH bs 25 (upD b' i a) p && ZH bs 25 (owD b' i a) q'))) := rfl
     walk_at "hd"
     walk_at "rk"
     refine ⟨rfl, ?_⟩
     subst_vars
     refine NI fun B hB => ?_
     walk_at "rk"
     subst hB
     walk_at "hd"
     walk_at "rk"
     refine ⟨by decide, ?_⟩
     rw [show DL.cutD [x, i, a, p, q'] (some 1) (some 3) = [i, a] from rfl]
     walk_at "rk"
     walk_at "hd"
     walk_at "rk"
     refine P8 hl.2.1 Zw ?_
     cases hx : isS x (Str.ofString "cut") with
     | false =>
      rw [hx, Bool.false_and] at e
      rw [hW.no e] at h
      walk_at "rk"
      exact h _ E1
     | true =>
      walk_at "rk"
      rw [hx, Bool.true_and] at e
      cases i with
      | int i =>
       cases a with
       | int a =>
        have hc : YH b' (.int i) (.int a) = Xk b' i a := rfl
        rw [hc] at e
        have no : Xk b' i a = false → Φ (.dat (.bool false)) (Z3 M1 q (OO.lst (ws.map wD))) := fun z => by
         rw [z, Bool.false_and] at e
         rw [hW.no e] at h
         exact h _ E1
        unfold ZM
        walk_at "rk"
        refine ⟨rfl, ?_⟩
        by_cases hi : i = 0 ∨ i = 1
        ·rw [show (decide (0 = i) || decide (1 = i)) = true by simp; omega]
         walk_at "rk"
         walk_at "hd"
         walk_at "rk"
         refine JE (d := .int (loB b' i)) (by rcases hi with rfl | rfl <;> rfl) ?_
         walk_at "rk"
         refine Zl (fun z0 => ?_) fun z0 => no (Bool.eq_false_iff.mpr fun y => z0 (QH.mp y).2.1)
         refine JE (d := .int (hiB b' i)) (by rcases hi with rfl | rfl <;> rfl) ?_
         walk_at "rk"
         by_cases z1 : a < hiB b' i
         ·rw [decide_eq_true z1]
          have yes : Xk b' i a = true := QH.mpr ⟨hi, z0, z1⟩
          walk_at "rk"
          walk_at "hd"
          walk_at "rk"
          refine ⟨hi, ?_⟩
          subst_vars
          walk_at "rk"
          have hs := hW.split hx yes
          have hz := hD.split (b1 := upB b' i a) (b2 := owB b' i (a + 1))
          have hl2 := hD.len
          rw [List.length_append, List.length_singleton] at hl2
          refine ⟨by rw [List.length_map]; omega, fun r hr2 => ⟨_, Hu _ _ _ _ _ _ _ _ _, r, _, _, _, _, _, _, rfl, ?_, E1.none hr2, E1.new (E1.none hr2), ⟨hs, hz⟩, rfl⟩⟩
          rw [ZU, List.map_append]
          rfl
         ·rw [decide_eq_false z1]
          walk_at "rk"
          exact no (Bool.eq_false_iff.mpr fun y => z1 (QH.mp y).2.2)
        ·rw [show (decide (0 = i) || decide (1 = i)) = false by simp; omega]
         walk_at "rk"
         refine no (Bool.eq_false_iff.mpr fun y => ?_)
         have := (QH.mp y).1
         omega
       | _ =>
        rw [hW.no (by rw [e]; rfl)] at h
        unfold ZM
        walk_at "rk"
        exact h _ E1
      | _ =>
       rw [hW.no (by rw [e]; rfl)] at h
       unfold ZM
       walk_at "rk"
       exact h _ E1
    ·have no := hW.no (VU h2 h5)
     rw [no] at h
     walk_at "hd"
     walk_at "rk"
     refine ⟨rfl, ?_⟩
     rw [decide_eq_false (show ¬ (2 : Int) = ds.length by omega), decide_eq_false (show ¬ (5 : Int) = ds.length by omega)]
     exact h _ E1
  | _ =>
   have no := hW.no rfl
   rw [no] at h
   walk_at "hd"
   walk_at "rk"
   exact h _ E1
theorem Mi (T : Tx K mg) : ZE P w K mg base CX0 4 T.Bd T.B9 ["_law_shape", "_law_spot_here", "_law_paper"] (lift K WJ) := by
 have G_whole : ZE P w K mg base CX0 1 T.Kr T.K1 ["_law_thing"] (lift K ZaI) := Ui T
 have G_l_has : ZE P w K mg base CX0 1 T.Ua T.WH ["_law_one", "_law_box_here"] (lift K C5) := C1 T
 have G_holds : ZE P w K mg base CX0 3 T.Bh T.Bb ["_law_shape", "_law_box_here", "_law_thing"] (lift K (Fy 26)) := Mw T
 refine okD T.WW.F VC (fun xs M Φ h => by obtain ⟨_, _, _, rfl, _⟩ := ZS h; rfl) fun cdv A outer s H E hr => ⟨_, (Ze (Qf (DW.dt (Ye (Q7 (QE (Zj (VS (kit_tuple _)) rfl T.ZR ZN (Za (Zb 2) (Za (Kf rfl T.JI QY) Zd))))) (Ye (ZF (WU hr) (Zj Qc rfl T.Jf Qd (Za (Zb 2) Zd)) (Zk (Za Zc (Za Zc Zd)))) (Y4 (ZF (Bn hr) (Zg (Zb 2) Zc) (Zg (Qb (Za Z1 (Za Z1 Zd))) (Zm ZI (Zj Qc rfl T.Jf Qd (Za (Zb 2) Zd)) Zc))))))) (Zi (Zn Jq)) ZC)
 (Ze (Vd (QN (Zb 2) (JL Zc) (JL Zc)) (JZ (n := 2) rfl (ZD (Zo 5 VC.nd) (ZD (Zo 6 VC.nd) QZ))))
 (Ze (Qf (DW.dt (Ye (Q7 (QE (Zh G_whole (hr.mono (by first | decide | omega)) rfl T.Qg.m T.Qg.F.kp T.Qg.b Zs (Za (Zb 5) Zd)))) (Ye (ZF KA (Zb 5) Zc) (Ye (Q7 (QE (Zj (VS (kit_tuple _)) rfl T.ZR ZN (Za (Zb 6) (Za (Kf rfl T.JI QY) Zd))))) (Y4 (ZF (Bn hr) (Zj Qc rfl T.Jf Qd (Za (Zb 6) Zd)) Zc)))))) (Zi (Zn Jq)) ZC)
 (Ze (Qf (DW.dt (Ye (Q7 (QE (Zh G_whole (hr.mono (by first | decide | omega)) rfl T.Qg.m T.Qg.F.kp T.Qg.b Zs (Za (Zg (Zb 6) Zc) Zd)))) (Y4 (Q7 (QE (Zh G_whole (hr.mono (by first | decide | omega)) rfl T.Qg.m T.Qg.F.kp T.Qg.b Zs (Za (Zg (Zb 6) Zc) Zd))))))) (Zi (Zn Jq)) ZC)
 (Ze (Qf (ZF (Bn hr) (Zj (VX rfl) rfl T.XQ VH (Za (Zj Wy rfl T.Ec Ww (Za (Zm ZI (Zg (Zb 6) Zc) (Zg (Zb 1) Zc)) Zd)) (Za (Zj Wy rfl T.Ec Ww (Za (Zm ZI (Zg (Zb 6) Zc) (Zg (Zb 1) Zc)) Zd)) Zd))) (Zb 5)) (Zi (Zn Jq)) ZC)
 (Ze (Zr 3 VC.nd (JP (ZdD hr) Jq (Q2 false (ZQ (sc := Zf Yr) (XN := ["_law_shape", "_law_spot_here", "_law_paper", "_law_has_other", "_law_less", "_law_far", "_law_other", "_law_low", "_law_high"]) (N := ["_law_box_here", "_law_other"]) (ix := [none, some 6]) rfl rfl (by decide +kernel)) (X9 (Zb 0)) (fun C ex s H => (Zo 0 (show List.Nodup (["_law_box_here", "_law_other"] : List Str) by decide +kernel))) (fun C ex s H => Q1) (fun C ex s H => (Zh G_l_has (hr.mono (by first | decide | omega)) rfl T.Yw.m T.Yw.F.kp T.Yw.b Zs (Za (Zb 0) (Za (Zk (Za (Zb 1) (Za (Zb 1) Zd))) Zd)))) rfl)))
 (Ze (Zr 4 VC.nd (Zk (Za (Zk (Za (Zm Zy (Zm ZI (Zg (Zb 1) Zc) (Zb 5)) Zc) (Za (Zm Zy (Zm ZI (Zg (Zb 1) Zc) (Zb 5)) Zc) Zd))) (Za (Zk (Za (Zm ZI (Zm Zy (Zg (Zb 1) Zc) (Zb 5)) Zc) (Za (Zm ZI (Zm Zy (Zg (Zb 1) Zc) (Zb 5)) Zc) Zd))) Zd))))
 (Ze (Qf (ZF (Q6 hr) (Zj Qc rfl T.Jf Qd (Za (Zb 2) Zd)) Zc) (Zi (Zn (QI (C2 (Zb 3)) (JK (Zh G_holds (hr.mono (by first | decide | omega)) rfl T.Ug.m T.Ug.F.kp T.Ug.b Zs (Za (Zb 0) (Za (Zb 4) (Za (Zg (Zb 2) Zc) Zd)))))))) ZC)
 (Ze (G9 (Zb 0) (JZ (n := 2) rfl (ZD (Zo 7 VC.nd) (ZD (Zo 8 VC.nd) QZ))) (Zi (Qf (DW.dt (Y5 (ZF Yv (Zg (Zb 7) Zc) (Zg (Zg (Zb 4) Zc) Zc)) (Y5 (ZF Yv (Zg (Zb 7) Zc) (Zg (Zg (Zb 4) Zc) Zc)) (Y5 (ZF Yv (Zg (Zg (Zb 4) Zc) Zc) (Zg (Zb 8) Zc)) (Xs (ZF Yv (Zg (Zg (Zb 4) Zc) Zc) (Zg (Zb 8) Zc))))))) (Zi (Zn Jq)) ZC)) PassesOwn.never rfl)
 (Zi (Zn (Zb 3)))))))))))), fun xs M Φ h => ?_⟩
 replace h := ZS h
 obtain ⟨x1, x2, x3, rfl, h⟩ := h
 replace h := Z0 h
 obtain ⟨bs, rfl, h⟩ := h
 replace h := Qt h
 obtain ⟨u, v, rfl, h⟩ := h
 replace h := Qo h
 obtain ⟨d, rfl, ⟨hs, hp⟩, h⟩ := h
 cases d with
 | tuple ds =>
  walk_at "hd"
  rename_i R hR
  have mid : ∀ (n o : PyData) (D : QL), D.rt = Φ → ds.length ≤ 4 → DL.cutD ds (some 1) (some 3) = [n, o] → ((∃ x c, ds = [x, n, o, c] ∧ isS x (Str.ofString "in") = true) ∨ ∃ x, ds = [x, n, o] ∧ isS x (Str.ofString "out") = true) →
    R D [some (.dat (.tuple (bs.map bD))), some (.dat (.tuple [.int u, .int v])), some (.dat (.tuple ds)), none, none, none, none, none, none] M := by
   intro n o D hD hl hc hw
   have no : awD u v n o = false → D.rt (.dat (.bool false)) M := fun z => by
    have e : QO bs u v (.tuple ds) = false := by
     rcases hw with ⟨x, c, rfl, _⟩ | ⟨x, rfl, _⟩
     ·show (awD u v n o && _) = false
      rw [z]
      rfl
     ·show (awD u v n o && _) = false
      rw [z]
      rfl
    rw [hD]
    rw [e] at h
    exact h _ (Ext.refl _)
   walk_at "hd"
   walk_at "rk"
   rw [hc]
   walk_at "rk"
   walk_at "hd"
   walk_at "rk"
   cases n with
   | int n =>
    rw [show ZM (.int n) = true from rfl]
    walk_at "rk"
    refine Zl (fun z => no ?_) fun hn => ?_
    ·cases q : awD u v (.int n) o with
     | false => rfl
     | true =>
      obtain ⟨k, a, b, e1, _, e3⟩ := Gp q
      cases e1
      unfold awB at e3
      rw [decide_eq_false (by omega)] at e3
      cases e3
    cases o with
    | tuple os =>
     by_cases h2 : os.length = 2
     ·obtain ⟨a, b, rfl⟩ := KJ h2
      walk_at "rk"
      walk_at "hd"
      walk_at "rk"
      cases a with
      | int a =>
       cases b with
       | int b =>
        unfold ZM
        walk_at "rk"
        walk_at "hd"
        walk_at "rk"
        rw [show max (if a - u < 0 then -(a - u) else a - u) (if b - v < 0 then -(b - v) else b - v) = Z9 u v a b from YS a b u v]
        have ea : awD u v (.int n) (.tuple [.int a, .int b]) = decide (Z9 u v a b = n) := by
         show (decide (1 ≤ n) && _) = _
         rw [decide_eq_true (by omega), Bool.true_and]
        rw [ea] at no
        by_cases e2 : Z9 u v a b = n
        ·rw [decide_eq_true e2, if_neg (by decide)]
         rw [decide_eq_true e2] at ea
         clear no
         walk_at "hd"
         walk_at "rk"
         refine ⟨by rw [List.length_map]; have := hs.2.1; omega, fun i acc M2 => acc = ((bs.take i).map fun c => hasB c a b).map PyData.bool ∧ M2 = M, ⟨rfl, rfl⟩, ?_, ?_⟩
         ·rintro i d acc M2 hd ⟨rfl, rfl⟩
          obtain ⟨x, ex, rfl⟩ := Qe hd
          walk_at "rk"
          rw [Zdu, ← take_snoc _ ex, List.map_append]
          rfl
         rintro acc M2 ⟨rfl, rfl⟩
         rw [List.length_map, List.take_length]
         refine ⟨(Dc _).1, ?_⟩
         rw [(Dc _).2, List.any_map, show (bs.any (id ∘ fun c => hasB c a b)) = anyB bs a b from rfl]
         walk_at "hd"
         walk_at "rk"
         rcases hw with ⟨x, c, rfl, hx⟩ | ⟨x, rfl, hx⟩
         ·have e : QO bs u v (.tuple [x, .int (Z9 u v a b), .tuple [.int a, .int b], c]) = (awD u v (.int (Z9 u v a b)) (.tuple [.int a, .int b]) && (isS x (Str.ofString "in") && (!anyB bs a b && ZH bs 26 (Qn u v (Z9 u v a b - 1)) c))) := rfl
          rw [e, ea, hx, Bool.true_and, Bool.true_and] at h
          clear e ea hc
          generalize Z9 u v a b = n at *
          walk_at "hd"
          walk_at "rk"
          cases qa : anyB bs a b with
          | true =>
           rw [qa] at h
           simpa using h _ (Ext.refl _)
          | false =>
           rw [qa] at h
           walk_at "rk"
           rw [ZdC]
           refine ⟨⟨hp.2, ?_⟩, fun M3 e3 => by simpa using h M3 e3⟩
           rw [ZV]
           unfold Qn
           dsimp only
           omega
         ·have e : QO bs u v (.tuple [x, .int (Z9 u v a b), .tuple [.int a, .int b]]) = (awD u v (.int (Z9 u v a b)) (.tuple [.int a, .int b]) && (isS x (Str.ofString "out") && (anyB bs a b && bs.all fun c => decide (Z9 u v a b ≤ ZK c u v)))) := rfl
          rw [e, ea, hx, Bool.true_and, Bool.true_and] at h
          clear e ea hc
          generalize Z9 u v a b = n at *
          walk_at "hd"
          walk_at "rk"
          walk_at "hd"
          walk_at "rk"
          refine ⟨fun i Δ M3 => ∃ k7 k8 : Option DV, Δ = [some (.dat (.tuple (bs.map bD))), some (.dat (.tuple [.int u, .int v])), some (.dat (.tuple [x, .int n, .tuple [.int a, .int b]])), some (.dat (.bool (anyB bs a b))), some (.dat (.tuple [.tuple [.int (u - n + 1), .int (v - n + 1)], .tuple [.int (u + n - 1), .int (v + n - 1)]])), some (.dat (.int n)), some (.dat (.tuple [.int a, .int b])), k7, k8] ∧ M3 = M2 ∧ ∀ c ∈ bs.take i, n ≤ ZK c u v, ⟨_, _, rfl, rfl, fun c z => by cases z⟩, ?_, ?_⟩
          ·rintro i d Δ M3 hd ⟨k7, k8, rfl, rfl, hc⟩
           obtain ⟨c, ec, rfl⟩ := Qe hd
           have key : (c.x ≤ u + n - 1 ∧ c.y ≤ v + n - 1 ∧ u - n + 1 ≤ c.X ∧ v - n + 1 ≤ c.Y) ↔ ZK c u v ≤ n - 1 := by
            rw [Q3 (by omega)]
            omega
           have stop : ZK c u v ≤ n - 1 → D.rt (.dat (.bool false)) M3 := fun z => by
            have e : (bs.all fun c => decide (n ≤ ZK c u v)) = false := by
             rw [List.all_eq_false]
             exact ⟨c, List.mem_of_getElem? ec, by rw [decide_eq_true_eq]; omega⟩
            rw [e, Bool.and_false] at h
            exact h _ (Ext.refl _)
           have more : ¬ ZK c u v ≤ n - 1 → ∀ c ∈ bs.take (i + 1), n ≤ ZK c u v := fun z c' hc' => by
            rw [Ek ec] at hc'
            rcases List.mem_append.mp hc' with hc' | hc'
            ·exact hc c' hc'
            ·rw [List.mem_singleton.mp hc']
             omega
           walk_at "rk"
           exact Zl (fun z1 => Zl (fun z2 => Zl (fun z3 => Zl (fun z4 => stop (key.mp ⟨z1, z2, z3, z4⟩)) fun z => ⟨_, _, rfl, more fun y => z (key.mpr y).2.2.2⟩) fun z => ⟨_, _, rfl, more fun y => z (key.mpr y).2.2.1⟩) fun z => ⟨_, _, rfl, more fun y => z (key.mpr y).2.1⟩) fun z => ⟨_, _, rfl, more fun y => z (key.mpr y).1⟩
          ·rintro Δ M3 ⟨k7, k8, rfl, rfl, hc⟩
           rw [List.length_map, List.take_length] at hc
           have e : (bs.all fun c => decide (n ≤ ZK c u v)) = true := List.all_eq_true.mpr fun c hm => decide_eq_true (hc c hm)
           rw [e, Bool.and_true] at h
           subst_vars
           walk_at "rk"
           exact h _ (Ext.refl _)
        ·rw [decide_eq_false e2, if_pos (by decide)]
         exact no (decide_eq_false e2)
       | _ =>
        unfold ZM
        walk_at "rk"
        exact no rfl
      | _ =>
       unfold ZM
       walk_at "rk"
       exact no rfl
     ·walk_at "rk"
      rw [decide_eq_false (show ¬ (os.length : Int) = 2 by omega)]
      refine no ?_
      cases q : awD u v (.int n) (.tuple os) with
      | false => rfl
      | true =>
       obtain ⟨k, a, b, _, e2, _⟩ := Gp q
       cases e2
       exact absurd rfl h2
    | _ =>
     walk_at "rk"
     exact no rfl
   | _ =>
    unfold ZM
    walk_at "rk"
    exact no rfl
  by_cases h4 : ds.length = 4
  ·obtain ⟨x, n, o, c, rfl⟩ := BH h4
   have e : QO bs u v (.tuple [x, n, o, c]) = (awD u v n o && (isS x (Str.ofString "in") && inD bs u v n o c)) := rfl
   rw [e] at h
   walk_at "rk"
   refine ⟨rfl, VM hp.1 Zw ?_⟩
   cases qx : isS x (Str.ofString "in") with
   | false =>
    rw [qx] at h
    simpa using h _ (Ext.refl _)
   | true =>
    rw [if_neg (by decide)]
    exact mid n o _ rfl (Nat.le_refl _) rfl (.inl ⟨x, c, rfl, qx⟩)
  ·by_cases h3 : ds.length = 3
   ·obtain ⟨x, n, o, rfl⟩ := W7 h3
    have e : QO bs u v (.tuple [x, n, o]) = (awD u v n o && (isS x (Str.ofString "out") && outD bs u v n o)) := rfl
    rw [e] at h
    walk_at "rk"
    refine ⟨rfl, VM hp Zw ?_⟩
    cases qx : isS x (Str.ofString "out") with
    | false =>
     rw [qx] at h
     simpa using h _ (Ext.refl _)
    | true =>
     rw [if_neg (by decide)]
     exact mid n o _ rfl (Nat.le_succ _) rfl (.inr ⟨x, rfl, qx⟩)
   ·rw [EM h3 h4] at h
    walk_at "rk"
    refine ⟨rfl, ?_⟩
    rw [decide_eq_false (show ¬ (3 : Int) = ds.length by omega), decide_eq_false (show ¬ (4 : Int) = ds.length by omega)]
    exact h _ (Ext.refl _)
 | _ =>
  walk_at "hd"
  walk_at "rk"
  exact h _ (Ext.refl _)
theorem UL (T : Tx K mg) : ZE P w K mg base CX0 2 T.Ys T.Yj ["_law_pen_here", "_law_other", "_law_spot_here"] (lift K Xo) := by
 have G_draw : ZE P w K mg base CX0 1 T.Y2 T.YQ ["_law_pen_here", "_law_many"] (lift K YF) := Ym T
 refine okD T.Vo.F Jh (fun xs M Φ h => by obtain ⟨_, _, _, rfl, _⟩ := ZS h; rfl) fun cdv A outer s H E hr => ⟨_, (Ze (Vd (Zb 1) (JZ (n := 2) rfl (ZD (Zo 4 Jh.nd) (ZD (Zo 5 Jh.nd) QZ))))
 (Ze (Zr 3 Jh.nd (Qb (Za (Zk (Za (Zm Zy (Zb 4) Zc) (Za (Zb 5) Zd))) (Za (Zk (Za (Zm ZI (Zb 4) Zc) (Za (Zb 5) Zd))) (Za (Zk (Za (Zb 4) (Za (Zm Zy (Zb 5) Zc) Zd))) (Za (Zk (Za (Zb 4) (Za (Zm ZI (Zb 5) Zc) Zd))) (Za (Zk (Za (Zb 5) (Za (Zb 4) Zd))) (Za (Zk (Za (Zm ZI (Zm JH Zc (Zg (Zb 2) Zc)) (Zb 4)) (Za (Zm ZI (Zm JH Zc (Zg (Zb 2) Zc)) (Zb 5)) Zd))) (Za (Zb 2) Zd)))))))))
 (Ze (Zr 3 Jh.nd (Zm Xw (Zb 3) (Qb (Za (Qb (Za (Zb 4) (Za (Zb 5) Zd))) (Za (Zk (Za (Zb 4) Zd)) (Za (Zk (Za (Zb 4) (Za (Zb 5) (Za Zc Zd)))) (Za (Zk (Za (Qq Hf rfl T.Gi KU (Za (Zb 4) Zd)) (Za (Zb 5) Zd))) (Za (Zk (Za (Zb 4) (Za KD Zd))) (Za KD (Za (Zb 4) (Za Cy (Za (Zk (Za (Qq FO rfl T.Zcy OS (Za (Zb 4) Zd)) (Za (Zb 5) Zd))) (Za (Zk Zd) Zd)))))))))))))
 (Zi (Zn (Zg (Zb 3) (Zh G_draw (hr.mono (by first | decide | omega)) rfl T.Zp.m T.Zp.F.kp T.Zp.b Zs (Za (Zb 0) (Za (Zj Qc rfl T.Jf Qd (Za (Zb 3) Zd)) Zd))))))))), fun xs M Φ h => ?_⟩
 replace h := ZS h
 obtain ⟨x1, x2, x3, rfl, h⟩ := h
 replace h := Jm h
 obtain ⟨p, rfl, h⟩ := h
 replace h := Qt h
 obtain ⟨a, b, rfl, h⟩ := h
 replace h := Qt h
 obtain ⟨u, v, rfl, ha, hP, h⟩ := h
 walk_at "hd"
 walk_at "rk"
 walk_at "hd"
 walk_at "rk"
 refine ⟨.inl (by decide), .inl (by decide), ?_⟩
 walk_at "hd"
 walk_at "rk"
 refine ⟨ha.lg, ?_⟩
 subst_vars
 walk_at "rk"
 exact ⟨hP, fun r M1 r0 r1 f1 => ZcE (fun _ => True) r0 (by exact r1) (fun _ _ => trivial) fun d _ => h d M1 f1⟩
theorem RT (T : Tx K mg) : ZE P w K mg base CX0 3 T.Lx T.FT ["_law_pen_here", "_law_shape", "_law_spot_here", "_law_paper"] (lift K Ls) := by
 have G_draw : ZE P w K mg base CX0 1 T.Y2 T.YQ ["_law_pen_here", "_law_many"] (lift K YF) := Ym T
 have G_bent_spot : ZE P w K mg base CX0 2 T.Ys T.Yj ["_law_pen_here", "_law_other", "_law_spot_here"] (lift K Xo) := UL T
 refine okD T.CH.F J1 (fun xs M Φ h => by obtain ⟨_, _, _, _, rfl, _⟩ := Pr h; rfl) fun cdv A outer s H E hr => ⟨_, (Ze (Vd (QN (Zb 3) Yn (JL Zc)) (JZ (n := 3) rfl (ZD (Zo 7 J1.nd) (ZD (Zo 8 J1.nd) (ZD (Zo 9 J1.nd) QZ)))))
 (Ze (Zr 4 J1.nd (Zk (Za Z1 (Za (Zh G_draw (hr.mono (by first | decide | omega)) rfl T.Zp.m T.Zp.F.kp T.Zp.b Zs (Za (Zb 0) (Za (Zj Qc rfl T.Jf Qd (Za (Zb 1) Zd)) Zd))) Zd))))
 (Ze (Zr 5 J1.nd (Zh G_draw (hr.mono (by first | decide | omega)) rfl T.Zp.m T.Zp.F.kp T.Zp.b Zs (Za (Zb 0) (Za Zc Zd))))
 (Ze (Qf (ZF (Q6 hr) (Zb 5) Zc) (Ze (Zr 6 J1.nd (Qb (Za (Zm Zy (Zb 8) Zc) (Za (Zm ZI (Zb 8) Zc) (Za Zc (Za (Zm ZI Zc (Zb 8)) (Za (Qq Hf rfl T.Gi KU (Za (Zb 8) Zd)) (Za (Qq FO rfl T.Zcy OS (Za (Zb 8) Zd)) (Za KD (Za (Zm Zy (Zb 8) (Zm Km Zc Zc)) (Za Zc Zd)))))))))))
 (Zi (Zn (Zm YD (Zk (Za (Zb 7) (Za (Zg (Zb 6) (Zh G_draw (hr.mono (by first | decide | omega)) rfl T.Zp.m T.Zp.F.kp T.Zp.b Zs (Za (Zb 0) (Za Zc Zd)))) Zd))) (QN (Zb 3) (JL Zc) Yn))))) ZC)
 (Ze (Qf (ZF (Q6 hr) (Zb 5) Zc) (Zi (Zn (Zm YD (Zk (Za (Zb 7) (Za (Zb 8) (Za (Zh G_bent_spot (hr.mono (by first | decide | omega)) rfl T.Vo.m T.Vo.F.kp T.Vo.b Zs (Za (Zb 0) (Za (Zb 9) (Za (Zb 2) Zd)))) Zd)))) (QN (Zb 3) (JL Zc) Yn)))) ZC)
 (Ze (Qf (ZF (Q6 hr) (Zb 5) Zc) (Ze (Zr 6 J1.nd (Qb (Za (Zb 4) (Za KD (Za (Zk (Za Z1 (Za Zc (Za (Zg (Zb 2) Zc) (Za (Zb 4) (Za (Zb 4) Zd)))))) (Za (Zk (Za Z1 (Za (Zb 4) Zd))) (Za (Qb (Za (Zb 4) Zd)) (Za (Zb 8) (Za (Zk (Za Z1 (Za (Zj Qc rfl T.Jf Qd (Za (Zb 1) Zd)) Zd))) Zd)))))))))
 (Zi (Zn (Zk (Za (Zb 7) (Za (Zb 8) (Za (Zb 9) (Za (Zg (Zb 6) (Zh G_draw (hr.mono (by first | decide | omega)) rfl T.Zp.m T.Zp.F.kp T.Zp.b Zs (Za (Zb 0) (Za Zc Zd)))) Zd)))))))) ZC)
 (Ze (Zr 6 J1.nd (Qb (Za (Zk (Za Z1 (Za (Zb 8) (Za (Zb 9) (Za (Zb 4) Zd))))) (Za (Zk (Za Z1 (Za (Zb 8) (Za (Zb 9) Zd)))) (Za (Qq U7 rfl T.Pe FC (Za (Zb 3) Zd)) (Za (QN (Zb 3) (JL Zc) Yn) (Za (Zm YD (Zb 3) (Zk (Za (Zb 4) Zd))) (Za (Zk (Za (Zb 3) Zd)) (Za (Zb 7) Zd)))))))))
 (Ze (Zr 6 J1.nd (Zm Xw (Zb 6) (Qb (Za (Zm YD (Zk (Za Z1 Zd)) (QN (Zb 3) (JL Zc) Yn)) (Za (Zm YD (Zk (Za KD Zd)) (QN (Zb 3) (JL Zc) Yn)) (Za KD (Za Jq (Za (Zb 8) (Za Cy (Za (Zk Zd) (Za (QN (Zb 3) Yn (JL Zc)) (Za (Zk (Za Z1 (Za (Zb 3) Zd))) Zd))))))))))))
 (Zi (Zn (Zg (Zb 6) (Zh G_draw (hr.mono (by first | decide | omega)) rfl T.Zp.m T.Zp.F.kp T.Zp.b Zs (Za (Zb 0) (Za (Zj Qc rfl T.Jf Qd (Za (Zb 6) Zd)) Zd)))))))))))))), fun xs M Φ h => ?_⟩
 replace h := Pr h
 obtain ⟨x1, x2, x3, x4, rfl, h⟩ := h
 replace h := Jm h
 obtain ⟨p, rfl, h⟩ := h
 replace h := Z0 h
 obtain ⟨bs, rfl, h⟩ := h
 replace h := Qt h
 obtain ⟨u, v, rfl, pp, rfl, hpp, ⟨hsm, hb⟩, hP, h⟩ := h
 obtain ⟨ds, s, n, a, b, cs, ep, ed, hna, L, C, ⟨c0, c1, c2, c3⟩, hl⟩ := OJ hpp hsm
 rw [ep]
 clear ep hsm hpp
 walk_at "hd"
 walk_at "rk"
 rw [c0]
 walk_at "rk"
 walk_at "hd"
 walk_at "rk"
 rw [List.length_map]
 refine ⟨⟨by omega, by omega⟩, hP, fun r M1 r0 r1 f1 => ?_⟩
 walk_at "hd"
 walk_at "rk"
 refine ⟨f1.1, fun r2 M2 a2 b2 f2 => ?_⟩
 replace f2 := f1.trans f2
 clear f1
 walk_at "hd"
 walk_at "rk"
 simp only [List.length_cons] at hl
 refine Zl (fun z => ?_) fun z => ?_
 ·refine ⟨hna.1.lg, RG _ (by decide), f2.1, fun r3 M3 a3 b3 f3 => ZcE (fun _ => True) a3 (by exact b3) (fun _ _ => trivial) fun d _ => ?_⟩
  rw [c2]
  exact ⟨by simp only [List.length_cons]; omega, h _ M3 (PR C L) (f2.trans f3)⟩
 ·walk_at "hd"
  walk_at "rk"
  refine Zl (fun z => ?_) fun z => ?_
  ·refine ⟨hna.2, f2.1, fun d M3 f3 => ?_⟩
   rw [c3]
   exact ⟨by omega, h _ M3 (PR C L) (f2.trans f3)⟩
  ·walk_at "hd"
   walk_at "rk"
   refine Zl (fun z => ?_) fun z => ?_
   ·refine ⟨f2.1, fun r3 M3 a3 b3 f3 => ZcE (Pap 26) a3 (by exact b3) (AllP.mem ?_) fun d hd => h _ M3 ⟨L, hd⟩ (f2.trans f3)⟩
    exact ⟨Zw, trivial, ⟨Zw, Zw, Zw⟩, Zw, trivial, trivial, Zw, trivial⟩
   ·walk_at "hd"
    walk_at "rk"
    refine ⟨by omega, ?_⟩
    walk_at "hd"
    walk_at "rk"
    subst_vars
    walk_at "rk"
    rw [c1, c0]
    refine ⟨by simp only [List.length_cons]; omega, by simp only [List.length_cons]; omega, f2.1, fun r3 M3 a3 b3 f3 => ZcE Pps a3 (by exact b3) (AllP.mem ?_) fun d hd => h d M3 hd (f2.trans f3)⟩
    rcases C with rfl | ⟨c, rfl, C⟩
    ·exact ⟨⟨Zw, Zw⟩, Zw, trivial, trivial, ⟨L, Zw⟩, trivial, trivial, Zw, rfl, trivial, trivial, trivial, trivial, trivial, L, trivial, trivial⟩
    ·exact ⟨⟨Zw, Zw⟩, Zw, trivial, rfl, trivial, trivial, trivial, ⟨Zw, C⟩, ⟨rfl, C⟩, trivial, trivial, trivial, trivial, trivial, L, trivial, trivial⟩
theorem Gr (T : Tx K mg) : ZE P w K mg base CX0 33 T.Yy T.Yu ["_law_shape", "_law_cells_here", "_law_frame_here", "_law_spot_here", "_law_paper"] (lift K Xb) := by
 have G_shows_depth : ZE P w K mg base CX0 32 T.VB T.VD ["shape", "spot", "thing"] (lift K WY) := We T
 have G_others : ZE P w K mg base CX0 2 T.W5 T.UC ["_law_cells_here", "_law_frame_here", "_law_spot_here"] (lift K W4) := Fi T
 have G_right : ZE P w K mg base CX0 4 T.Bd T.B9 ["_law_shape", "_law_spot_here", "_law_paper"] (lift K WJ) := Mi T
 refine okD T.Vm.F J0 (fun xs M Φ h => by obtain ⟨_, _, _, _, _, rfl, _⟩ := PU h; rfl) fun cdv A outer s H E hr => ⟨_, (Ze (Zr 5 J0.nd (Zh G_shows_depth (hr.mono (by first | decide | omega)) rfl T.Jp.m T.Jp.F.kp T.Jp.b Zs (Za (Zb 0) (Za (Zb 3) (Za (Zb 4) Zd)))))
 (Ze (Qf (DW.dt (Ye (Q7 (QE (Zj (VS (W6 _)) rfl T.ZR ZN (Za (Zb 5) (Za (Kf rfl T.Gi KU) Zd))))) (Y4 (ZF (Bn hr) (Zb 5) (Zh G_right (hr.mono (by first | decide | omega)) rfl T.WW.m T.WW.F.kp T.WW.b Zs (Za (Zb 0) (Za (Zb 3) (Za (Zb 4) Zd)))))))) (Zi (Zn Jq)) ZC)
 (Ze (Qf (Q7 (QE (Zb 5))) (Zi (Zn Jq)) ZC)
 (Ze (Vd (Zh G_others (hr.mono (by first | decide | omega)) rfl T.XU.m T.XU.F.kp T.XU.b Zs (Za (Zb 1) (Za (Zb 2) (Za (Zb 3) Zd)))) (JZ (n := 2) rfl (ZD (Zo 6 J0.nd) (ZD (Zo 7 J0.nd) QZ))))
 (Zi (Zn (QI (JP (Q6 hr) (JP (Q6 hr) (Zg (Zb 4) Zc) Z1) (Zb 6)) (JK (JP (Q6 hr) (Zg (Zb 4) Zc) (Zj (Uc rfl) rfl T.Xh Vf (Za (Q2 false (ZQ (sc := Zf QM) (XN := ["_law_shape", "_law_cells_here", "_law_frame_here", "_law_spot_here", "_law_paper", "_law_found", "_law_inside", "_law_others_here"]) (N := ["_law_cell", "_law_gap_here"]) (ix := [none, none]) rfl rfl (by decide +kernel)) (Yq (Zb 7)) (fun C ex s H => (JZ (n := 2) rfl (ZD (Zo 0 (show List.Nodup (["_law_cell", "_law_gap_here"] : List Str) by decide +kernel)) (ZD (Zo 1 (show List.Nodup (["_law_cell", "_law_gap_here"] : List Str) by decide +kernel)) QZ)))) (fun C ex s H => Q1) (fun C ex s H => (Zb 1)) rfl) Zd))))))))))), fun xs M Φ h => ?_⟩
 replace h := PU h
 obtain ⟨x1, x2, x3, x4, x5, rfl, h⟩ := h
 replace h := Z0 h
 obtain ⟨bs, rfl, h⟩ := h
 replace h := X5 h
 obtain ⟨t, ox, oy, rfl, h⟩ := h
 replace h := Qt h
 obtain ⟨u, v, rfl, h⟩ := h
 replace h := Qo h
 obtain ⟨d, rfl, h⟩ := h
 replace h := H9 h
 obtain ⟨l, ks, bs0, rfl, hl, hk, ⟨⟨hf, hg⟩, hp, rfl⟩, h⟩ := h
 have shp : Shp (bs0.map (VJ t ox oy)) := by
  refine ⟨by rw [List.length_map]; exact hg.1, by rw [List.length_map]; exact hg.2.1, fun c hc => ?_⟩
  obtain ⟨b, hb, rfl⟩ := List.mem_map.mp hc
  exact strOk hf.1.1 (hg.2.2 b hb).1
 walk_at "hd"
 walk_at "rk"
 refine ⟨⟨shp, hp⟩, ?_⟩
 walk_at "hd"
 walk_at "rk"
 refine ⟨⟨shp, hp⟩, fun M1 e1 => ?_⟩
 rw [show (!QO (List.map (VJ t ox oy) bs0) u v d == QO (List.map (VJ t ox oy) bs0) u v d) = false by cases QO (List.map (VJ t ox oy) bs0) u v d <;> rfl]
 walk_at "rk"
 have hl1 : M1 l = some (.dct ks) := by rw [e1 l (by rw [hl]; exact Option.some_ne_none _)]; exact hl
 walk_at "hd"
 walk_at "rk"
 cases q : QO (List.map (VJ t ox oy) bs0) u v d with
 | false =>
  walk_at "rk"
  exact h _ e1
 | true =>
  walk_at "rk"
  walk_at "hd"
  walk_at "rk"
  refine ⟨l, ks, bs0, rfl, hl1, hk, hf, fun cs hcs hlen => ?_⟩
  have hS : Sds bs0 t ox oy u v cs := ⟨⟨hf, hg⟩, hcs, hlen⟩
  rw [show anyB bs0 ((u - ox) / t) ((v - oy) / t) = anyB (bs0.map (VJ t ox oy)) u v from (Vw hf.1.1 _ _ _).symm]
  obtain ⟨wd, n, o, r, rfl, hw, kd⟩ := OD shp q
  walk_at "rk"
  subst_vars
  walk_at "rk"
  rw [hw, beq_self_eq_true, if_pos rfl]
  refine ⟨by rw [List.length_map]; omega, fun i acc M' => acc = ((cs.take i).map fun c => ZK (Jj t ox oy c.1 c.2) u v).map PyData.int ∧ M' = M1, ⟨rfl, rfl⟩, ?_, ?_⟩
  ·rintro i d acc M' hd ⟨rfl, rfl⟩
   obtain ⟨c, ec, rfl⟩ := Qe hd
   unfold Tp prD
   walk_at "rk"
   rw [← take_snoc _ ec, List.map_append]
   rfl
  ·rintro acc M' ⟨rfl, rfl⟩
   rw [List.length_map, List.take_length]
   refine ⟨_, .inl rfl, by rw [List.length_map]; exact hS.pos, fun m hm hn => ?_⟩
   have e := (hS.least hm hn).eq kd
   have e : n = m := by
    cases q : anyB (bs0.map (VJ t ox oy)) u v with
    | true => rw [q, if_pos rfl, if_pos rfl] at e; exact e.symm
    | false => rw [q, if_neg Bool.false_ne_true, if_neg Bool.false_ne_true] at e; omega
   rw [decide_eq_true e]
   exact h _ e1
theorem Zbc (T : Tx K mg) : ZE P w K mg base CX0 34 T.Zbh T.Zcs ["_law_script"] (lift K EZ) := by
 have G_pen : ZE P w K mg base CX0 1 T.Ru T.Rw ["_law_script", "_law_k"] (lift K E9) := ZaB T
 have G_boxes : ZE P w K mg base CX0 3 T.BA T.Bv ["_law_pen_here"] (lift K UQ) := N8 T
 have G_l_frame : ZE P w K mg base CX0 2 T.KQ T.KH ["_law_pen_here"] (lift K Up) := Dd T
 have G_laid : ZE P w K mg base CX0 1 T.HU T.FF ["_law_boxes_here", "_law_frame_here"] (lift K He) := Rj T
 have G_cells : ZE P w K mg base CX0 1 T.Bz T.BQ ["_law_boxes_here"] (lift K Bu) := Na T
 have G_spot : ZE P w K mg base CX0 2 T.Hs T.Hq ["_law_pen_here", "_law_frame_here"] (lift K B1) := Sn T
 have G_shown : ZE P w K mg base CX0 33 T.Br T.BE ["shape", "spot"] (lift K BC) := L7 T
 have G_bent : ZE P w K mg base CX0 3 T.Lx T.FT ["_law_pen_here", "_law_shape", "_law_spot_here", "_law_paper"] (lift K Ls) := RT T
 have G_looked_at : ZE P w K mg base CX0 33 T.Yy T.Yu ["_law_shape", "_law_cells_here", "_law_frame_here", "_law_spot_here", "_law_paper"] (lift K Xb) := Gr T
 refine okD T.o_law.F Vi (fun xs M Φ ⟨ns, e, _⟩ => by rw [e]; rfl) fun cdv A outer s H E hr => ⟨_, (Ze (VE rfl T.QV (Za (Zj (VX rfl) rfl T.XQ VH (Za Zc (Za (Zj (Yk rfl) rfl T.Xh Vf (Za (Zj Qc rfl T.Jf Qd (Za (Zb 0) Zd)) (Za Zc Zd))) Zd))) Zd) (Zo 1 Vi.nd) (Ze (Zr 2 Vi.nd (Zh G_pen (hr.mono (by first | decide | omega)) rfl T.Mn.m T.Mn.F.kp T.Mn.b Zs (Za (Zb 0) (Za (Zb 1) Zd))))
 (Ze (Zr 3 Vi.nd (Zh G_boxes (hr.mono (by first | decide | omega)) rfl T.WV.m T.WV.F.kp T.WV.b Zs (Za (Zb 2) Zd)))
 (Ze (Zr 4 Vi.nd (Zh G_l_frame (hr.mono (by first | decide | omega)) rfl T.YO.m T.YO.F.kp T.YO.b Zs (Za (Zb 2) Zd)))
 (Ze (Zr 5 Vi.nd (Zh G_laid (hr.mono (by first | decide | omega)) rfl T.Cz.m T.Cz.F.kp T.Cz.b Zs (Za (Zb 3) (Za (Zb 4) Zd))))
 (Ze (Zr 6 Vi.nd (Zh G_cells (hr.mono (by first | decide | omega)) rfl T.Ul.m T.Ul.F.kp T.Ul.b Zs (Za (Zb 3) Zd)))
 (Zi (VE rfl T.QV (Za Zc Zd) (Zo 7 Vi.nd) (Ze (Zr 8 Vi.nd (Zh G_spot (hr.mono (by first | decide | omega)) rfl T.Kv.m T.Kv.F.kp T.Kv.b Zs (Za (Zb 2) (Za (Zb 4) Zd))))
 (Ze (Zr 9 Vi.nd (Zh G_shown (hr.mono (by first | decide | omega)) rfl T.Yx.m T.Yx.F.kp T.Yx.b Zs (Za (Zb 5) (Za (Zb 8) Zd))))
 (Ze (HN 10 true Vi.nd (ZQ (sc := Zf B3) (XN := ["_law_script", "_law_k", "_law_pen_here", "_law_boxes_here", "_law_frame_here", "_law_shape", "_law_cells_here", "_law_turn", "_law_spot_here", "_law_paper", "_law_some", "_law_thing"]) (N := ["_law_again", "_law_pen_here", "_law_shape", "_law_spot_here", "_law_paper"]) (ix := [none, some 2, some 5, some 8, some 9]) rfl rfl (by decide +kernel)) (KG rfl T.QV (Za Zc Zd)) (fun C ex s H => (Zo 0 (show List.Nodup (["_law_again", "_law_pen_here", "_law_shape", "_law_spot_here", "_law_paper"] : List Str) by decide +kernel))) (fun C ex s H => Q1) (fun C ex s H => (Zh G_bent (hr.mono (by first | decide | omega)) rfl T.CH.m T.CH.F.kp T.CH.b Zs (Za (Zb 1) (Za (Zb 2) (Za (Zb 3) (Za (Zb 4) Zd)))))) rfl)
 (Ze (J6 (Je (Zb 10) (Zh G_shown (hr.mono (by first | decide | omega)) rfl T.Yx.m T.Yx.F.kp T.Yx.b Zs (Za (Zb 5) (Za (Zh G_spot (hr.mono (by first | decide | omega)) rfl T.Kv.m T.Kv.F.kp T.Kv.b Zs (Za (Zb 2) (Za (Zb 4) Zd))) Zd)))))
 (Ze (Zr 10 Vi.nd (Zm Xw (Zb 10) (Qb (Za (Zk (Za Z1 (Za Zc (Za (Zb 8) Zd)))) (Za (Zk (Za Z1 (Za Zc (Za (Zb 8) (Za (Zk (Za Z1 (Za Zc Zd))) Zd))))) (Za (Zk (Za Z1 (Za Jq (Za (Zb 8) Zd)))) (Za (Zk (Za Z1 (Za Zc (Za (Zb 8) (Za KD Zd))))) Zd)))))))
 (Zi (Ub (Zm Xw (Zb 10) (Qb (Za (Zb 9) Zd))) (Zo 11 Vi.nd) (Zi (Qf (Q7 (QE (Zh G_looked_at (hr.mono (by first | decide | omega)) rfl T.Vm.m T.Vm.F.kp T.Vm.b Zs (Za (Zb 5) (Za (Zb 6) (Za (Zb 4) (Za (Zb 8) (Za (Zb 11) Zd)))))))) (Zi (Zn Jq)) ZC)) PassesOwn.never rfl))))))) PassesOwn.never rfl))))))) PassesOwn.never rfl)
 (Zi (Zn Jq))), fun xs M Φ ⟨ns, e, hn, h⟩ => ?_⟩
 subst e
 walk_at "hd"
 walk_at "rk"
 rw [List.length_map]
 refine ⟨⟨by omega, by omega⟩, fun i Δ M' => ∃ k1 k2 k3 k4 k5 k6 k7 k8 k9 k10 k11 : Option DV, Δ = [some (.dat (.list (ns.map PyData.int))), k1, k2, k3, k4, k5, k6, k7, k8, k9, k10, k11], ⟨none, none, none, none, none, none, none, none, none, none, none, rfl⟩, ?_, ?_⟩
 ·rintro i Δ M' hi ⟨k1, k2, k3, k4, k5, k6, k7, k8, k9, k10, k11, rfl⟩
  rw [Y1]
  walk_at "hd"
  walk_at "rk"
  refine ⟨by omega, fun p o hp ho => ?_⟩
  walk_at "hd"
  walk_at "rk"
  refine ⟨Pen.Z3 ho, fun bs M1 hg hP => ?_⟩
  walk_at "hd"
  walk_at "rk"
  refine ⟨hP, fun t ox oy M2 hf hP2 => ?_⟩
  walk_at "hd"
  walk_at "rk"
  refine ⟨hg, ?_⟩
  walk_at "hd"
  walk_at "rk"
  refine ⟨hg, fun l ks hl hk => ?_⟩
  have n1 : p ≠ l := hP2.ne hl
  have shp : Shp (bs.map (VJ t ox oy)) := by
   refine ⟨by rw [List.length_map]; exact hg.1, by rw [List.length_map]; exact hg.2.1, fun c hc => ?_⟩
   obtain ⟨b, hb, rfl⟩ := List.mem_map.mp hc
   exact strOk hf.1.1 (hg.2.2 b hb).1
  have hB : ∀ c ∈ bs.map (VJ t ox oy), Far c := fun c hc => by
   have := P0 hf hg hc
   have hf' := hf
   unfold Frm at hf'
   unfold Far
   omega
  subst_vars
  walk_at "rk"
  refine ⟨⟨by decide, by decide⟩, fun j Δ M3 => ∃ k7 k8 k9 k10 k11 : Option DV, Δ = [some (.dat (.list (ns.map PyData.int))), some (.dat (.int (i : Int))), some (.own p), some (.dat (.list (bs.map bD))), some (.dat (.tuple [.int t, .int ox, .int oy])), some (.dat (.tuple ((bs.map (VJ t ox oy)).map bD))), some (.own l), k7, k8, k9, k10, k11] ∧ M3 l = some (.dct ks) ∧ Pen M3 p,
   ⟨_, _, _, _, _, rfl, ZU, hP2.put n1⟩, ?_, ?_⟩
  ·rintro j Δ M3 hj ⟨k7, k8, k9, k10, k11, rfl, hl3, hP3⟩
   rw [Y1]
   walk_at "hd"
   walk_at "rk"
   refine ⟨hf, hP3, fun u v M4 huv f4 => ?_⟩
   have gl4 := f4.own hl3 (Ne.symm n1)
   walk_at "hd"
   walk_at "rk"
   refine ⟨shp, fun pp hpp rp => ?_⟩
   walk_at "hd"
   walk_at "rk"
   refine ⟨⟨by decide, by decide⟩, by decide, fun m acc M5 => ((∀ d ∈ acc, Pps d) ∧ acc.length = m) ∧ Fr p M4 M5, ⟨⟨fun _ z => (by cases z), rfl⟩, Fr.refl f4.1⟩, ?_, ?_⟩
   ·rintro m d acc M5 hd ⟨⟨ha, hn⟩, f5⟩
    refine Sr hpp ⟨⟨Zcp hB huv rp, shp.1, shp.2.1⟩, f5.1, fun d M6 hd f6 => ⟨⟨fun x hx => ?_, by rw [List.length_append, hn]; rfl⟩, f5.trans f6⟩⟩
    rcases List.mem_append.mp hx with hx | hx
    ·exact ha x hx
    ·rw [List.mem_singleton.mp hx]
     exact hd
   rintro acc M5 ⟨⟨ha, hn⟩, f5⟩ q hq
   have hn : acc.length = 5 := hn
   have gl5 := f5.own gl4 (Ne.symm n1)
   have n2 : p ≠ q := f5.1.ne hq
   have n3 : l ≠ q := fun e => by rw [e, hq] at gl5; cases gl5
   walk_at "hd"
   walk_at "rk"
   refine ⟨hf, f5.1.put n2, fun u2 v2 M6 huv2 f6 => ⟨shp, fun p2 hp2 rp2 => ?_⟩⟩
   have gq6 : M6 q = some (.lst acc) := f6.own ZU (Ne.symm n2)
   have gl6 : M6 l = some (.dct ks) := f6.own (by rw [Qm n3]; exact gl5) (Ne.symm n1)
   rw [gq6]
   walk_at "rk"
   refine ⟨by omega, ?_⟩
   walk_at "hd"
   walk_at "rk"
   obtain ⟨L, eL⟩ : ∃ L : List PyData, L = acc ++ [ppD p2] ++ [.tuple [.str (Str.ofString "out"), .int 0, .tuple [.int u, .int v]], .tuple [.str (Str.ofString "in"), .int 0, .tuple [.int u, .int v], .tuple [.str (Str.ofString "box"), .int 0]], .tuple [.str (Str.ofString "out"), .bool false, .tuple [.int u, .int v]], .tuple [.str (Str.ofString "in"), .int 0, .tuple [.int u, .int v], .none]] := ⟨_, rfl⟩
   rw [← eL]
   have hL : (∀ d ∈ L, Pps d) ∧ L.length = 10 := by
    rw [eL]
    refine ⟨fun d hd => ?_, by simp only [List.length_append, List.length_cons, List.length_nil, hn]⟩
    simp only [List.mem_append, List.mem_cons, List.not_mem_nil, or_false] at hd
    rcases hd with (hd | rfl) | rfl | rfl | rfl | rfl
    ·exact ha d hd
    ·exact OU hp2
    ·exact Zw
    ·exact ⟨Zw, Zw⟩
    ·exact Zw
    ·exact ⟨Zw, trivial⟩
   refine ⟨by rw [List.length_append, hn, List.length_singleton]; decide, ?_⟩
   clear eL
   subst_vars
   walk_at "rk"
   refine ⟨by omega, ?_⟩
   refine ⟨fun n Δ M7 => ∃ k11 : Option DV, Δ = [some (.dat (.list (ns.map PyData.int))), some (.dat (.int (i : Int))), some (.own p), some (.dat (.list (bs.map bD))), some (.dat (.tuple [.int t, .int ox, .int oy])), some (.dat (.tuple ((bs.map (VJ t ox oy)).map bD))), some (.own l), some (.dat (.int (j : Int))), some (.dat (.tuple [.int u, .int v])), some (.dat (ppD pp)), some (.dat (.list L)), k11] ∧ M7 l = some (.dct ks) ∧ Pen M7 p, ⟨_, rfl, by rw [Qm n3]; exact gl6, f6.1.put n2⟩, ?_, ?_⟩
   ·rintro n d Δ M7 hd ⟨k11, rfl, hl7, hP7⟩
    have pd : Pps d := by
     rcases List.mem_append.mp (List.mem_of_getElem? hd) with hd | hd
     ·exact hL.1 d hd
     ·rw [List.mem_singleton.mp hd]
      exact OU hpp
    walk_at "rk"
    refine ⟨l, ks, bs, rfl, hl7, hk, ⟨⟨hf, hg⟩, pd, rfl⟩, fun M8 e8 => ?_⟩
    walk_at "rk"
    exact ⟨_, rfl, e8.own hl7, e8.pen hP7⟩
   ·rintro Δ M7 ⟨k11, rfl, hl7, hP7⟩
    exact ⟨_, _, _, _, _, rfl, hl7, hP7⟩
  ·rintro Δ M3 ⟨k7, k8, k9, k10, k11, rfl, hl3, hP3⟩
   exact ⟨_, _, _, _, _, _, _, _, _, _, _, rfl⟩
 ·rintro Δ M' ⟨k1, k2, k3, k4, k5, k6, k7, k8, k9, k10, k11, rfl⟩
  subst_vars
  walk_at "rk"
  exact h _
end
theorem K7 {α : Type} {l : List α} (h : l.length = 1) : ∃ a0, l = [a0] := by
 match l, h with
 | [a0], _ => exact ⟨a0, rfl⟩
theorem Ju {α : Type} {l : List α} (h : l.length = 2) : ∃ a0 a1, l = [a0, a1] := by
 match l, h with
 | [a0, a1], _ => exact ⟨a0, a1, rfl⟩
theorem Yf {α : Type} {l : List α} (h : l.length = 3) : ∃ a0 a1 a2, l = [a0, a1, a2] := by
 match l, h with
 | [a0, a1, a2], _ => exact ⟨a0, a1, a2, rfl⟩
theorem ZdS {α : Type} {l : List α} (h : l.length = 4) : ∃ a0 a1 a2 a3, l = [a0, a1, a2, a3] := by
 match l, h with
 | [a0, a1, a2, a3], _ => exact ⟨a0, a1, a2, a3, rfl⟩
theorem Zdv {α : Type} {l : List α} (h : l.length = 5) : ∃ a0 a1 a2 a3 a4, l = [a0, a1, a2, a3, a4] := by
 match l, h with
 | [a0, a1, a2, a3, a4], _ => exact ⟨a0, a1, a2, a3, a4, rfl⟩
theorem all_mk {l : PySem.W.OpenLaw} {w : World} {K : PySem.W.Frag} {h : Heap} {mg : Str → Option Value} {fa : Addr} (X : K.In h) (G : h.Ns mainGlobals mg) (hfa : mg "law" = some (.ref fa))
  {f0 : Addr} {od0 an0 : Option Addr} {sl0 : Array (Option Value)} {oc0 kV0 dc0 pm0 cd0 ct0 : Value} {f1 : Addr} {od1 an1 : Option Addr} {sl1 : Array (Option Value)} {oc1 kV1 dc1 pm1 cd1 ct1 : Value} {f2 : Addr} {od2 an2 : Option Addr} {sl2 : Array (Option Value)} {oc2 kV2 dc2 pm2 cd2 ct2 : Value} {f3 : Addr} {od3 an3 : Option Addr} {sl3 : Array (Option Value)} {oc3 kV3 dc3 pm3 cd3 ct3 : Value} {f4 : Addr} {od4 an4 : Option Addr} {sl4 : Array (Option Value)} {oc4 kV4 dc4 pm4 cd4 ct4 : Value} {f5 : Addr} {od5 an5 : Option Addr} {sl5 : Array (Option Value)} {oc5 kV5 dc5 pm5 cd5 ct5 : Value} {f6 : Addr} {od6 an6 : Option Addr} {sl6 : Array (Option Value)} {oc6 kV6 dc6 pm6 cd6 ct6 : Value} {f7 : Addr} {od7 an7 : Option Addr} {sl7 : Array (Option Value)} {oc7 kV7 dc7 pm7 cd7 ct7 : Value} {f8 : Addr} {od8 an8 : Option Addr} {sl8 : Array (Option Value)} {oc8 kV8 dc8 pm8 cd8 ct8 : Value} {f9 : Addr} {od9 an9 : Option Addr} {sl9 : Array (Option Value)} {oc9 kV9 dc9 pm9 cd9 ct9 : Value} {f10 : Addr} {od10 an10 : Option Addr} {sl10 : Array (Option Value)} {oc10 kV10 dc10 pm10 cd10 ct10 : Value} {f11 : Addr} {od11 an11 : Option Addr} {sl11 : Array (Option Value)} {oc11 kV11 dc11 pm11 cd11 ct11 : Value} {f12 : Addr} {od12 an12 : Option Addr} {sl12 : Array (Option Value)} {oc12 kV12 dc12 pm12 cd12 ct12 : Value} {f13 : Addr} {od13 an13 : Option Addr} {sl13 : Array (Option Value)} {oc13 kV13 dc13 pm13 cd13 ct13 : Value} {f14 : Addr} {od14 an14 : Option Addr} {sl14 : Array (Option Value)} {oc14 kV14 dc14 pm14 cd14 ct14 : Value} {f15 : Addr} {od15 an15 : Option Addr} {sl15 : Array (Option Value)} {oc15 kV15 dc15 pm15 cd15 ct15 : Value} {f16 : Addr} {od16 an16 : Option Addr} {sl16 : Array (Option Value)} {oc16 kV16 dc16 pm16 cd16 ct16 : Value} {f17 : Addr} {od17 an17 : Option Addr} {sl17 : Array (Option Value)} {oc17 kV17 dc17 pm17 cd17 ct17 : Value} {f18 : Addr} {od18 an18 : Option Addr} {sl18 : Array (Option Value)} {oc18 kV18 dc18 pm18 cd18 ct18 : Value} {f19 : Addr} {od19 an19 : Option Addr} {sl19 : Array (Option Value)} {oc19 kV19 dc19 pm19 cd19 ct19 : Value} {f20 : Addr} {od20 an20 : Option Addr} {sl20 : Array (Option Value)} {oc20 kV20 dc20 pm20 cd20 ct20 : Value} {f21 : Addr} {od21 an21 : Option Addr} {sl21 : Array (Option Value)} {oc21 kV21 dc21 pm21 cd21 ct21 : Value} {f22 : Addr} {od22 an22 : Option Addr} {sl22 : Array (Option Value)} {oc22 kV22 dc22 pm22 cd22 ct22 : Value} {f23 : Addr} {od23 an23 : Option Addr} {sl23 : Array (Option Value)} {oc23 kV23 dc23 pm23 cd23 ct23 : Value} {f24 : Addr} {od24 an24 : Option Addr} {sl24 : Array (Option Value)} {oc24 kV24 dc24 pm24 cd24 ct24 : Value} {f25 : Addr} {od25 an25 : Option Addr} {sl25 : Array (Option Value)} {oc25 kV25 dc25 pm25 cd25 ct25 : Value} {f26 : Addr} {od26 an26 : Option Addr} {sl26 : Array (Option Value)} {oc26 kV26 dc26 pm26 cd26 ct26 : Value} {f27 : Addr} {od27 an27 : Option Addr} {sl27 : Array (Option Value)} {oc27 kV27 dc27 pm27 cd27 ct27 : Value} {f28 : Addr} {od28 an28 : Option Addr} {sl28 : Array (Option Value)} {oc28 kV28 dc28 pm28 cd28 ct28 : Value} {f29 : Addr} {od29 an29 : Option Addr} {sl29 : Array (Option Value)} {oc29 kV29 dc29 pm29 cd29 ct29 : Value} {f30 : Addr} {od30 an30 : Option Addr} {sl30 : Array (Option Value)} {oc30 kV30 dc30 pm30 cd30 ct30 : Value} {f31 : Addr} {od31 an31 : Option Addr} {sl31 : Array (Option Value)} {oc31 kV31 dc31 pm31 cd31 ct31 : Value} {f32 : Addr} {od32 an32 : Option Addr} {sl32 : Array (Option Value)} {oc32 kV32 dc32 pm32 cd32 ct32 : Value} {f33 : Addr} {od33 an33 : Option Addr} {sl33 : Array (Option Value)} {oc33 kV33 dc33 pm33 cd33 ct33 : Value} {f34 : Addr} {od34 an34 : Option Addr} {sl34 : Array (Option Value)} {oc34 kV34 dc34 pm34 cd34 ct34 : Value} {f35 : Addr} {od35 an35 : Option Addr} {sl35 : Array (Option Value)} {oc35 kV35 dc35 pm35 cd35 ct35 : Value} {f36 : Addr} {od36 an36 : Option Addr} {sl36 : Array (Option Value)} {oc36 kV36 dc36 pm36 cd36 ct36 : Value} {f37 : Addr} {od37 an37 : Option Addr} {sl37 : Array (Option Value)} {oc37 kV37 dc37 pm37 cd37 ct37 : Value} {f38 : Addr} {od38 an38 : Option Addr} {sl38 : Array (Option Value)} {oc38 kV38 dc38 pm38 cd38 ct38 : Value} {f39 : Addr} {od39 an39 : Option Addr} {sl39 : Array (Option Value)} {oc39 kV39 dc39 pm39 cd39 ct39 : Value} {f40 : Addr} {od40 an40 : Option Addr} {sl40 : Array (Option Value)} {oc40 kV40 dc40 pm40 cd40 ct40 : Value} {f41 : Addr} {od41 an41 : Option Addr} {sl41 : Array (Option Value)} {oc41 kV41 dc41 pm41 cd41 ct41 : Value} {f42 : Addr} {od42 an42 : Option Addr} {sl42 : Array (Option Value)} {oc42 kV42 dc42 pm42 cd42 ct42 : Value} {f43 : Addr} {od43 an43 : Option Addr} {sl43 : Array (Option Value)} {oc43 kV43 dc43 pm43 cd43 ct43 : Value} {f44 : Addr} {od44 an44 : Option Addr} {sl44 : Array (Option Value)} {oc44 kV44 dc44 pm44 cd44 ct44 : Value} {f45 : Addr} {od45 an45 : Option Addr} {sl45 : Array (Option Value)} {oc45 kV45 dc45 pm45 cd45 ct45 : Value} {f46 : Addr} {od46 an46 : Option Addr} {sl46 : Array (Option Value)} {oc46 kV46 dc46 pm46 cd46 ct46 : Value} {f47 : Addr} {od47 an47 : Option Addr} {sl47 : Array (Option Value)} {oc47 kV47 dc47 pm47 cd47 ct47 : Value} {f48 : Addr} {od48 an48 : Option Addr} {sl48 : Array (Option Value)} {oc48 kV48 dc48 pm48 cd48 ct48 : Value} {f49 : Addr} {od49 an49 : Option Addr} {sl49 : Array (Option Value)} {oc49 kV49 dc49 pm49 cd49 ct49 : Value} {f50 : Addr} {od50 an50 : Option Addr} {sl50 : Array (Option Value)} {oc50 kV50 dc50 pm50 cd50 ct50 : Value} {f51 : Addr} {od51 an51 : Option Addr} {sl51 : Array (Option Value)} {oc51 kV51 dc51 pm51 cd51 ct51 : Value}
  (a0 : PySem.W.nsIn K mainGlobals "is_whole" = some (some (.ref f0))) (l0 : K.lookup f0 = some ⟨oc0, od0, .func (PySem.W.fnOf "is_whole" "is_whole" (Zu JA) (Zq JA) (Zf JA) .none kV0 dc0 pm0 an0 cd0 ct0), sl0⟩) (c0 : PySem.W.codeIn K cd0 "is_whole" = true) (k0 : PySem.W.keepIn K (.ref f0) = true)
  (a1 : PySem.W.nsIn K mainGlobals "is_any_spot" = some (some (.ref f1))) (l1 : K.lookup f1 = some ⟨oc1, od1, .func (PySem.W.fnOf "is_any_spot" "is_any_spot" (Zu QB) (Zq QB) (Zf QB) .none kV1 dc1 pm1 an1 cd1 ct1), sl1⟩) (c1 : PySem.W.codeIn K cd1 "is_any_spot" = true) (k1 : PySem.W.keepIn K (.ref f1) = true)
  (a2 : PySem.W.nsIn K mainGlobals "has_spots" = some (some (.ref f2))) (l2 : K.lookup f2 = some ⟨oc2, od2, .func (PySem.W.fnOf "has_spots" "has_spots" (Zu Jb) (Zq Jb) (Zf Jb) .none kV2 dc2 pm2 an2 cd2 ct2), sl2⟩) (c2 : PySem.W.codeIn K cd2 "has_spots" = true) (k2 : PySem.W.keepIn K (.ref f2) = true)
  (a3 : PySem.W.nsIn K mainGlobals "steps" = some (some (.ref f3))) (l3 : K.lookup f3 = some ⟨oc3, od3, .func (PySem.W.fnOf "steps" "steps" (Zu Xn) (Zq Xn) (Zf Xn) .none kV3 dc3 pm3 an3 cd3 ct3), sl3⟩) (c3 : PySem.W.codeIn K cd3 "steps" = true) (k3 : PySem.W.keepIn K (.ref f3) = true)
  (a4 : PySem.W.nsIn K mainGlobals "has" = some (some (.ref f4))) (l4 : K.lookup f4 = some ⟨oc4, od4, .func (PySem.W.fnOf "has" "has" (Zu D5) (Zq D5) (Zf D5) .none kV4 dc4 pm4 an4 cd4 ct4), sl4⟩) (c4 : PySem.W.codeIn K cd4 "has" = true) (k4 : PySem.W.keepIn K (.ref f4) = true)
  (a5 : PySem.W.nsIn K mainGlobals "has_all" = some (some (.ref f5))) (l5 : K.lookup f5 = some ⟨oc5, od5, .func (PySem.W.fnOf "has_all" "has_all" (Zu Vc) (Zq Vc) (Zf Vc) .none kV5 dc5 pm5 an5 cd5 ct5), sl5⟩) (c5 : PySem.W.codeIn K cd5 "has_all" = true) (k5 : PySem.W.keepIn K (.ref f5) = true)
  (a6 : PySem.W.nsIn K mainGlobals "steps_to" = some (some (.ref f6))) (l6 : K.lookup f6 = some ⟨oc6, od6, .func (PySem.W.fnOf "steps_to" "steps_to" (Zu JC) (Zq JC) (Zf JC) .none kV6 dc6 pm6 an6 cd6 ct6), sl6⟩) (c6 : PySem.W.codeIn K cd6 "steps_to" = true) (k6 : PySem.W.keepIn K (.ref f6) = true)
  (a7 : PySem.W.nsIn K mainGlobals "steps_between" = some (some (.ref f7))) (l7 : K.lookup f7 = some ⟨oc7, od7, .func (PySem.W.fnOf "steps_between" "steps_between" (Zu Z7) (Zq Z7) (Zf Z7) .none kV7 dc7 pm7 an7 cd7 ct7), sl7⟩) (c7 : PySem.W.codeIn K cd7 "steps_between" = true) (k7 : PySem.W.keepIn K (.ref f7) = true)
  (a8 : PySem.W.nsIn K mainGlobals "gap" = some (some (.ref f8))) (l8 : K.lookup f8 = some ⟨oc8, od8, .func (PySem.W.fnOf "gap" "gap" (Zu DF) (Zq DF) (Zf DF) .none kV8 dc8 pm8 an8 cd8 ct8), sl8⟩) (c8 : PySem.W.codeIn K cd8 "gap" = true) (k8 : PySem.W.keepIn K (.ref f8) = true)
  (a9 : PySem.W.nsIn K mainGlobals "square" = some (some (.ref f9))) (l9 : K.lookup f9 = some ⟨oc9, od9, .func (PySem.W.fnOf "square" "square" (Zu Yc) (Zq Yc) (Zf Yc) .none kV9 dc9 pm9 an9 cd9 ct9), sl9⟩) (c9 : PySem.W.codeIn K cd9 "square" = true) (k9 : PySem.W.keepIn K (.ref f9) = true)
  (a10 : PySem.W.nsIn K mainGlobals "up_to" = some (some (.ref f10))) (l10 : K.lookup f10 = some ⟨oc10, od10, .func (PySem.W.fnOf "up_to" "up_to" (Zu Xt) (Zq Xt) (Zf Xt) .none kV10 dc10 pm10 an10 cd10 ct10), sl10⟩) (c10 : PySem.W.codeIn K cd10 "up_to" = true) (k10 : PySem.W.keepIn K (.ref f10) = true)
  (a11 : PySem.W.nsIn K mainGlobals "onward_from" = some (some (.ref f11))) (l11 : K.lookup f11 = some ⟨oc11, od11, .func (PySem.W.fnOf "onward_from" "onward_from" (Zu QA) (Zq QA) (Zf QA) .none kV11 dc11 pm11 an11 cd11 ct11), sl11⟩) (c11 : PySem.W.codeIn K cd11 "onward_from" = true) (k11 : PySem.W.keepIn K (.ref f11) = true)
  (a12 : PySem.W.nsIn K mainGlobals "common" = some (some (.ref f12))) (l12 : K.lookup f12 = some ⟨oc12, od12, .func (PySem.W.fnOf "common" "common" (Zu V4) (Zq V4) (Zf V4) .none kV12 dc12 pm12 an12 cd12 ct12), sl12⟩) (c12 : PySem.W.codeIn K cd12 "common" = true) (k12 : PySem.W.keepIn K (.ref f12) = true)
  (a13 : PySem.W.nsIn K mainGlobals "cut_out" = some (some (.ref f13))) (l13 : K.lookup f13 = some ⟨oc13, od13, .func (PySem.W.fnOf "cut_out" "cut_out" (Zu JN) (Zq JN) (Zf JN) .none kV13 dc13 pm13 an13 cd13 ct13), sl13⟩) (c13 : PySem.W.codeIn K cd13 "cut_out" = true) (k13 : PySem.W.keepIn K (.ref f13) = true)
  (a14 : PySem.W.nsIn K mainGlobals "left_over" = some (some (.ref f14))) (l14 : K.lookup f14 = some ⟨oc14, od14, .func (PySem.W.fnOf "left_over" "left_over" (Zu Q8) (Zq Q8) (Zf Q8) .none kV14 dc14 pm14 an14 cd14 ct14), sl14⟩) (c14 : PySem.W.codeIn K cd14 "left_over" = true) (k14 : PySem.W.keepIn K (.ref f14) = true)
  (a15 : PySem.W.nsIn K mainGlobals "covered" = some (some (.ref f15))) (l15 : K.lookup f15 = some ⟨oc15, od15, .func (PySem.W.fnOf "covered" "covered" (Zu JO) (Zq JO) (Zf JO) .none kV15 dc15 pm15 an15 cd15 ct15), sl15⟩) (c15 : PySem.W.codeIn K cd15 "covered" = true) (k15 : PySem.W.keepIn K (.ref f15) = true)
  (a16 : PySem.W.nsIn K mainGlobals "cover_of" = some (some (.ref f16))) (l16 : K.lookup f16 = some ⟨oc16, od16, .func (PySem.W.fnOf "cover_of" "cover_of" (Zu Jy) (Zq Jy) (Zf Jy) .none kV16 dc16 pm16 an16 cd16 ct16), sl16⟩) (c16 : PySem.W.codeIn K cd16 "cover_of" = true) (k16 : PySem.W.keepIn K (.ref f16) = true)
  (a17 : PySem.W.nsIn K mainGlobals "cut_places" = some (some (.ref f17))) (l17 : K.lookup f17 = some ⟨oc17, od17, .func (PySem.W.fnOf "cut_places" "cut_places" (Zu Qw) (Zq Qw) (Zf Qw) .none kV17 dc17 pm17 an17 cd17 ct17), sl17⟩) (c17 : PySem.W.codeIn K cd17 "cut_places" = true) (k17 : PySem.W.keepIn K (.ref f17) = true)
  (a18 : PySem.W.nsIn K mainGlobals "holds_cover" = some (some (.ref f18))) (l18 : K.lookup f18 = some ⟨oc18, od18, .func (PySem.W.fnOf "holds_cover" "holds_cover" (Zu Qz) (Zq Qz) (Zf Qz) .none kV18 dc18 pm18 an18 cd18 ct18), sl18⟩) (c18 : PySem.W.codeIn K cd18 "holds_cover" = true) (k18 : PySem.W.keepIn K (.ref f18) = true)
  (a19 : PySem.W.nsIn K mainGlobals "is_number_of" = some (some (.ref f19))) (l19 : K.lookup f19 = some ⟨oc19, od19, .func (PySem.W.fnOf "is_number_of" "is_number_of" (Zu Ql) (Zq Ql) (Zf Ql) .none kV19 dc19 pm19 an19 cd19 ct19), sl19⟩) (c19 : PySem.W.codeIn K cd19 "is_number_of" = true) (k19 : PySem.W.keepIn K (.ref f19) = true)
  (a20 : PySem.W.nsIn K mainGlobals "cuts" = some (some (.ref f20))) (l20 : K.lookup f20 = some ⟨oc20, od20, .func (PySem.W.fnOf "cuts" "cuts" (Zu Wm) (Zq Wm) (Zf Wm) .none kV20 dc20 pm20 an20 cd20 ct20), sl20⟩) (c20 : PySem.W.codeIn K cd20 "cuts" = true) (k20 : PySem.W.keepIn K (.ref f20) = true)
  (a21 : PySem.W.nsIn K mainGlobals "lies_in" = some (some (.ref f21))) (l21 : K.lookup f21 = some ⟨oc21, od21, .func (PySem.W.fnOf "lies_in" "lies_in" (Zu JG) (Zq JG) (Zf JG) .none kV21 dc21 pm21 an21 cd21 ct21), sl21⟩) (c21 : PySem.W.codeIn K cd21 "lies_in" = true) (k21 : PySem.W.keepIn K (.ref f21) = true)
  (a22 : PySem.W.nsIn K mainGlobals "depth" = some (some (.ref f22))) (l22 : K.lookup f22 = some ⟨oc22, od22, .func (PySem.W.fnOf "depth" "depth" (Zu Xg) (Zq Xg) (Zf Xg) .none kV22 dc22 pm22 an22 cd22 ct22), sl22⟩) (c22 : PySem.W.codeIn K cd22 "depth" = true) (k22 : PySem.W.keepIn K (.ref f22) = true)
  (a23 : PySem.W.nsIn K mainGlobals "nearest" = some (some (.ref f23))) (l23 : K.lookup f23 = some ⟨oc23, od23, .func (PySem.W.fnOf "nearest" "nearest" (Zu JF) (Zq JF) (Zf JF) .none kV23 dc23 pm23 an23 cd23 ct23), sl23⟩) (c23 : PySem.W.codeIn K cd23 "nearest" = true) (k23 : PySem.W.keepIn K (.ref f23) = true)
  (a24 : PySem.W.nsIn K mainGlobals "other_side" = some (some (.ref f24))) (l24 : K.lookup f24 = some ⟨oc24, od24, .func (PySem.W.fnOf "other_side" "other_side" (Zu QR) (Zq QR) (Zf QR) .none kV24 dc24 pm24 an24 cd24 ct24), sl24⟩) (c24 : PySem.W.codeIn K cd24 "other_side" = true) (k24 : PySem.W.keepIn K (.ref f24) = true)
  (a25 : PySem.W.nsIn K mainGlobals "frame" = some (some (.ref f25))) (l25 : K.lookup f25 = some ⟨oc25, od25, .func (PySem.W.fnOf "frame" "frame" (Zu J2) (Zq J2) (Zf J2) .none kV25 dc25 pm25 an25 cd25 ct25), sl25⟩) (c25 : PySem.W.codeIn K cd25 "frame" = true) (k25 : PySem.W.keepIn K (.ref f25) = true)
  (a26 : PySem.W.nsIn K mainGlobals "steps_away" = some (some (.ref f26))) (l26 : K.lookup f26 = some ⟨oc26, od26, .func (PySem.W.fnOf "steps_away" "steps_away" (Zu Qu) (Zq Qu) (Zf Qu) .none kV26 dc26 pm26 an26 cd26 ct26), sl26⟩) (c26 : PySem.W.codeIn K cd26 "steps_away" = true) (k26 : PySem.W.keepIn K (.ref f26) = true)
  (a27 : PySem.W.nsIn K mainGlobals "shown" = some (some (.ref f27))) (l27 : K.lookup f27 = some ⟨oc27, od27, .func (PySem.W.fnOf "shown" "shown" (Zu Xy) (Zq Xy) (Zf Xy) .none kV27 dc27 pm27 an27 cd27 ct27), sl27⟩) (c27 : PySem.W.codeIn K cd27 "shown" = true) (k27 : PySem.W.keepIn K (.ref f27) = true)
  (a28 : PySem.W.nsIn K mainGlobals "shows_depth" = some (some (.ref f28))) (l28 : K.lookup f28 = some ⟨oc28, od28, .func (PySem.W.fnOf "shows_depth" "shows_depth" (Zu QC) (Zq QC) (Zf QC) .none kV28 dc28 pm28 an28 cd28 ct28), sl28⟩) (c28 : PySem.W.codeIn K cd28 "shows_depth" = true) (k28 : PySem.W.keepIn K (.ref f28) = true)
  (a29 : PySem.W.nsIn K mainGlobals "is_away" = some (some (.ref f29))) (l29 : K.lookup f29 = some ⟨oc29, od29, .func (PySem.W.fnOf "is_away" "is_away" (Zu J8) (Zq J8) (Zf J8) .none kV29 dc29 pm29 an29 cd29 ct29), sl29⟩) (c29 : PySem.W.codeIn K cd29 "is_away" = true) (k29 : PySem.W.keepIn K (.ref f29) = true)
  (a30 : PySem.W.nsIn K mainGlobals "none_nearer" = some (some (.ref f30))) (l30 : K.lookup f30 = some ⟨oc30, od30, .func (PySem.W.fnOf "none_nearer" "none_nearer" (Zu Qh) (Zq Qh) (Zf Qh) .none kV30 dc30 pm30 an30 cd30 ct30), sl30⟩) (c30 : PySem.W.codeIn K cd30 "none_nearer" = true) (k30 : PySem.W.keepIn K (.ref f30) = true)
  (a31 : PySem.W.nsIn K mainGlobals "_law_pen" = some (some (.ref f31))) (l31 : K.lookup f31 = some ⟨oc31, od31, .func (PySem.W.fnOf "_law_pen" "_law_pen" (Zu DQ) (Zq DQ) (Zf DQ) .none kV31 dc31 pm31 an31 cd31 ct31), sl31⟩) (c31 : PySem.W.codeIn K cd31 "_law_pen" = true) (k31 : PySem.W.keepIn K (.ref f31) = true)
  (a32 : PySem.W.nsIn K mainGlobals "_law_draw" = some (some (.ref f32))) (l32 : K.lookup f32 = some ⟨oc32, od32, .func (PySem.W.fnOf "_law_draw" "_law_draw" (Zu Ws) (Zq Ws) (Zf Ws) .none kV32 dc32 pm32 an32 cd32 ct32), sl32⟩) (c32 : PySem.W.codeIn K cd32 "_law_draw" = true) (k32 : PySem.W.keepIn K (.ref f32) = true)
  (a33 : PySem.W.nsIn K mainGlobals "_law_hole" = some (some (.ref f33))) (l33 : K.lookup f33 = some ⟨oc33, od33, .func (PySem.W.fnOf "_law_hole" "_law_hole" (Zu Kx) (Zq Kx) (Zf Kx) .none kV33 dc33 pm33 an33 cd33 ct33), sl33⟩) (c33 : PySem.W.codeIn K cd33 "_law_hole" = true) (k33 : PySem.W.keepIn K (.ref f33) = true)
  (a34 : PySem.W.nsIn K mainGlobals "_law_box" = some (some (.ref f34))) (l34 : K.lookup f34 = some ⟨oc34, od34, .func (PySem.W.fnOf "_law_box" "_law_box" (Zu El) (Zq El) (Zf El) .none kV34 dc34 pm34 an34 cd34 ct34), sl34⟩) (c34 : PySem.W.codeIn K cd34 "_law_box" = true) (k34 : PySem.W.keepIn K (.ref f34) = true)
  (a35 : PySem.W.nsIn K mainGlobals "_law_boxes" = some (some (.ref f35))) (l35 : K.lookup f35 = some ⟨oc35, od35, .func (PySem.W.fnOf "_law_boxes" "_law_boxes" (Zu Xd) (Zq Xd) (Zf Xd) .none kV35 dc35 pm35 an35 cd35 ct35), sl35⟩) (c35 : PySem.W.codeIn K cd35 "_law_boxes" = true) (k35 : PySem.W.keepIn K (.ref f35) = true)
  (a36 : PySem.W.nsIn K mainGlobals "_law_frame" = some (some (.ref f36))) (l36 : K.lookup f36 = some ⟨oc36, od36, .func (PySem.W.fnOf "_law_frame" "_law_frame" (Zu JJ) (Zq JJ) (Zf JJ) .none kV36 dc36 pm36 an36 cd36 ct36), sl36⟩) (c36 : PySem.W.codeIn K cd36 "_law_frame" = true) (k36 : PySem.W.keepIn K (.ref f36) = true)
  (a37 : PySem.W.nsIn K mainGlobals "_law_laid" = some (some (.ref f37))) (l37 : K.lookup f37 = some ⟨oc37, od37, .func (PySem.W.fnOf "_law_laid" "_law_laid" (Zu WE) (Zq WE) (Zf WE) .none kV37 dc37 pm37 an37 cd37 ct37), sl37⟩) (c37 : PySem.W.codeIn K cd37 "_law_laid" = true) (k37 : PySem.W.keepIn K (.ref f37) = true)
  (a38 : PySem.W.nsIn K mainGlobals "_law_cells" = some (some (.ref f38))) (l38 : K.lookup f38 = some ⟨oc38, od38, .func (PySem.W.fnOf "_law_cells" "_law_cells" (Zu XA) (Zq XA) (Zf XA) .none kV38 dc38 pm38 an38 cd38 ct38), sl38⟩) (c38 : PySem.W.codeIn K cd38 "_law_cells" = true) (k38 : PySem.W.keepIn K (.ref f38) = true)
  (a39 : PySem.W.nsIn K mainGlobals "_law_spot" = some (some (.ref f39))) (l39 : K.lookup f39 = some ⟨oc39, od39, .func (PySem.W.fnOf "_law_spot" "_law_spot" (Zu Wt) (Zq Wt) (Zf Wt) .none kV39 dc39 pm39 an39 cd39 ct39), sl39⟩) (c39 : PySem.W.codeIn K cd39 "_law_spot" = true) (k39 : PySem.W.keepIn K (.ref f39) = true)
  (a40 : PySem.W.nsIn K mainGlobals "_law_gap" = some (some (.ref f40))) (l40 : K.lookup f40 = some ⟨oc40, od40, .func (PySem.W.fnOf "_law_gap" "_law_gap" (Zu Xu) (Zq Xu) (Zf Xu) .none kV40 dc40 pm40 an40 cd40 ct40), sl40⟩) (c40 : PySem.W.codeIn K cd40 "_law_gap" = true) (k40 : PySem.W.keepIn K (.ref f40) = true)
  (a41 : PySem.W.nsIn K mainGlobals "_law_others" = some (some (.ref f41))) (l41 : K.lookup f41 = some ⟨oc41, od41, .func (PySem.W.fnOf "_law_others" "_law_others" (Zu Vq) (Zq Vq) (Zf Vq) .none kV41 dc41 pm41 an41 cd41 ct41), sl41⟩) (c41 : PySem.W.codeIn K cd41 "_law_others" = true) (k41 : PySem.W.keepIn K (.ref f41) = true)
  (a42 : PySem.W.nsIn K mainGlobals "_law_has" = some (some (.ref f42))) (l42 : K.lookup f42 = some ⟨oc42, od42, .func (PySem.W.fnOf "_law_has" "_law_has" (Zu Xf) (Zq Xf) (Zf Xf) .none kV42 dc42 pm42 an42 cd42 ct42), sl42⟩) (c42 : PySem.W.codeIn K cd42 "_law_has" = true) (k42 : PySem.W.keepIn K (.ref f42) = true)
  (a43 : PySem.W.nsIn K mainGlobals "_law_parts" = some (some (.ref f43))) (l43 : K.lookup f43 = some ⟨oc43, od43, .func (PySem.W.fnOf "_law_parts" "_law_parts" (Zu Xm) (Zq Xm) (Zf Xm) .none kV43 dc43 pm43 an43 cd43 ct43), sl43⟩) (c43 : PySem.W.codeIn K cd43 "_law_parts" = true) (k43 : PySem.W.keepIn K (.ref f43) = true)
  (a44 : PySem.W.nsIn K mainGlobals "_law_whole" = some (some (.ref f44))) (l44 : K.lookup f44 = some ⟨oc44, od44, .func (PySem.W.fnOf "_law_whole" "_law_whole" (Zu Xv) (Zq Xv) (Zf Xv) .none kV44 dc44 pm44 an44 cd44 ct44), sl44⟩) (c44 : PySem.W.codeIn K cd44 "_law_whole" = true) (k44 : PySem.W.keepIn K (.ref f44) = true)
  (a45 : PySem.W.nsIn K mainGlobals "_law_leaf_holds" = some (some (.ref f45))) (l45 : K.lookup f45 = some ⟨oc45, od45, .func (PySem.W.fnOf "_law_leaf_holds" "_law_leaf_holds" (Zu QS) (Zq QS) (Zf QS) .none kV45 dc45 pm45 an45 cd45 ct45), sl45⟩) (c45 : PySem.W.codeIn K cd45 "_law_leaf_holds" = true) (k45 : PySem.W.keepIn K (.ref f45) = true)
  (a46 : PySem.W.nsIn K mainGlobals "_law_holds" = some (some (.ref f46))) (l46 : K.lookup f46 = some ⟨oc46, od46, .func (PySem.W.fnOf "_law_holds" "_law_holds" (Zu Xi) (Zq Xi) (Zf Xi) .none kV46 dc46 pm46 an46 cd46 ct46), sl46⟩) (c46 : PySem.W.codeIn K cd46 "_law_holds" = true) (k46 : PySem.W.keepIn K (.ref f46) = true)
  (a47 : PySem.W.nsIn K mainGlobals "_law_right" = some (some (.ref f47))) (l47 : K.lookup f47 = some ⟨oc47, od47, .func (PySem.W.fnOf "_law_right" "_law_right" (Zu Yr) (Zq Yr) (Zf Yr) .none kV47 dc47 pm47 an47 cd47 ct47), sl47⟩) (c47 : PySem.W.codeIn K cd47 "_law_right" = true) (k47 : PySem.W.keepIn K (.ref f47) = true)
  (a48 : PySem.W.nsIn K mainGlobals "_law_bent_spot" = some (some (.ref f48))) (l48 : K.lookup f48 = some ⟨oc48, od48, .func (PySem.W.fnOf "_law_bent_spot" "_law_bent_spot" (Zu Q9) (Zq Q9) (Zf Q9) .none kV48 dc48 pm48 an48 cd48 ct48), sl48⟩) (c48 : PySem.W.codeIn K cd48 "_law_bent_spot" = true) (k48 : PySem.W.keepIn K (.ref f48) = true)
  (a49 : PySem.W.nsIn K mainGlobals "_law_bent" = some (some (.ref f49))) (l49 : K.lookup f49 = some ⟨oc49, od49, .func (PySem.W.fnOf "_law_bent" "_law_bent" (Zu Wu) (Zq Wu) (Zf Wu) .none kV49 dc49 pm49 an49 cd49 ct49), sl49⟩) (c49 : PySem.W.codeIn K cd49 "_law_bent" = true) (k49 : PySem.W.keepIn K (.ref f49) = true)
  (a50 : PySem.W.nsIn K mainGlobals "_law_looked_at" = some (some (.ref f50))) (l50 : K.lookup f50 = some ⟨oc50, od50, .func (PySem.W.fnOf "_law_looked_at" "_law_looked_at" (Zu QM) (Zq QM) (Zf QM) .none kV50 dc50 pm50 an50 cd50 ct50), sl50⟩) (c50 : PySem.W.codeIn K cd50 "_law_looked_at" = true) (k50 : PySem.W.keepIn K (.ref f50) = true)
  (a51 : PySem.W.nsIn K mainGlobals "law" = some (some (.ref f51))) (l51 : K.lookup f51 = some ⟨oc51, od51, .func (PySem.W.fnOf "law" "law" (Zu B3) (Zq B3) (Zf B3) .none kV51 dc51 pm51 an51 cd51 ct51), sl51⟩) (c51 : PySem.W.codeIn K cd51 "law" = true) (k51 : PySem.W.keepIn K (.ref f51) = true)
  (z0 : PySem.W.nsIn K mainGlobals "abs" = some none)
  (z1 : PySem.W.nsIn K mainGlobals "all" = some none)
  (z2 : PySem.W.nsIn K mainGlobals "any" = some none)
  (z3 : PySem.W.nsIn K mainGlobals "bool" = some none)
  (z4 : PySem.W.nsIn K mainGlobals "int" = some none)
  (z5 : PySem.W.nsIn K mainGlobals "isinstance" = some none)
  (z6 : PySem.W.nsIn K mainGlobals "len" = some none)
  (z7 : PySem.W.nsIn K mainGlobals "list" = some none)
  (z8 : PySem.W.nsIn K mainGlobals "max" = some none)
  (z9 : PySem.W.nsIn K mainGlobals "min" = some none)
  (z10 : PySem.W.nsIn K mainGlobals "range" = some none)
  (z11 : PySem.W.nsIn K mainGlobals "set" = some none)
  (z12 : PySem.W.nsIn K mainGlobals "sorted" = some none)
  (z13 : PySem.W.nsIn K mainGlobals "str" = some none)
  (z14 : PySem.W.nsIn K mainGlobals "tuple" = some none) :
  ∃ fd : FuncData, (∀ (s : Shared) (v : Value), BindsTo s fd ⟨[v], []⟩ [("_law_script", v)]) ∧ ∀ base : Heap, K.In base → base.Ns mainGlobals mg → ZE l.prog w K mg base CX0 34 fa fd ["_law_script"] (lift K EZ) := by
 have e := hfa.symm.trans (PySem.W.mg_of X G a51)
 cases e
 have F0 := ZA (st := JA) l0 c0 k0
 have b0 := F0.binds (ps := ["thing"]) fun _ _ _ _ _ _ us hl => by obtain ⟨_, rfl⟩ := K7 hl; rfl
 have F1 := ZA (st := QB) l1 c1 k1
 have b1 := F1.binds (ps := ["thing"]) fun _ _ _ _ _ _ us hl => by obtain ⟨_, rfl⟩ := K7 hl; rfl
 have F2 := ZA (st := Jb) l2 c2 k2
 have b2 := F2.binds (ps := ["box"]) fun _ _ _ _ _ _ us hl => by obtain ⟨_, rfl⟩ := K7 hl; rfl
 have F3 := ZA (st := Xn) l3 c3 k3
 have b3 := F3.binds (ps := ["one", "other"]) fun _ _ _ _ _ _ us hl => by obtain ⟨_, _, rfl⟩ := Ju hl; rfl
 have F4 := ZA (st := D5) l4 c4 k4
 have b4 := F4.binds (ps := ["box", "spot"]) fun _ _ _ _ _ _ us hl => by obtain ⟨_, _, rfl⟩ := Ju hl; rfl
 have F5 := ZA (st := Vc) l5 c5 k5
 have b5 := F5.binds (ps := ["box", "other"]) fun _ _ _ _ _ _ us hl => by obtain ⟨_, _, rfl⟩ := Ju hl; rfl
 have F6 := ZA (st := JC) l6 c6 k6
 have b6 := F6.binds (ps := ["box", "spot"]) fun _ _ _ _ _ _ us hl => by obtain ⟨_, _, rfl⟩ := Ju hl; rfl
 have F7 := ZA (st := Z7) l7 c7 k7
 have b7 := F7.binds (ps := ["one", "other"]) fun _ _ _ _ _ _ us hl => by obtain ⟨_, _, rfl⟩ := Ju hl; rfl
 have F8 := ZA (st := DF) l8 c8 k8
 have b8 := F8.binds (ps := ["one", "other", "way"]) fun _ _ _ _ _ _ us hl => by obtain ⟨_, _, _, rfl⟩ := Yf hl; rfl
 have F9 := ZA (st := Yc) l9 c9 k9
 have b9 := F9.binds (ps := ["spot", "r"]) fun _ _ _ _ _ _ us hl => by obtain ⟨_, _, rfl⟩ := Ju hl; rfl
 have F10 := ZA (st := Xt) l10 c10 k10
 have b10 := F10.binds (ps := ["box", "way", "at"]) fun _ _ _ _ _ _ us hl => by obtain ⟨_, _, _, rfl⟩ := Yf hl; rfl
 have F11 := ZA (st := QA) l11 c11 k11
 have b11 := F11.binds (ps := ["box", "way", "at"]) fun _ _ _ _ _ _ us hl => by obtain ⟨_, _, _, rfl⟩ := Yf hl; rfl
 have F12 := ZA (st := V4) l12 c12 k12
 have b12 := F12.binds (ps := ["one", "other"]) fun _ _ _ _ _ _ us hl => by obtain ⟨_, _, rfl⟩ := Ju hl; rfl
 have F13 := ZA (st := JN) l13 c13 k13
 have b13 := F13.binds (ps := ["one", "other"]) fun _ _ _ _ _ _ us hl => by obtain ⟨_, _, rfl⟩ := Ju hl; rfl
 have F14 := ZA (st := Q8) l14 c14 k14
 have b14 := F14.binds (ps := ["box", "others"]) fun _ _ _ _ _ _ us hl => by obtain ⟨_, _, rfl⟩ := Ju hl; rfl
 have F15 := ZA (st := JO) l15 c15 k15
 have b15 := F15.binds (ps := ["shape", "box"]) fun _ _ _ _ _ _ us hl => by obtain ⟨_, _, rfl⟩ := Ju hl; rfl
 have F16 := ZA (st := Jy) l16 c16 k16
 have b16 := F16.binds (ps := ["shape", "box"]) fun _ _ _ _ _ _ us hl => by obtain ⟨_, _, rfl⟩ := Ju hl; rfl
 have F17 := ZA (st := Qw) l17 c17 k17
 have b17 := F17.binds (ps := ["shape", "box", "way"]) fun _ _ _ _ _ _ us hl => by obtain ⟨_, _, _, rfl⟩ := Yf hl; rfl
 have F18 := ZA (st := Qz) l18 c18 k18
 have b18 := F18.binds (ps := ["shape", "box", "thing"]) fun _ _ _ _ _ _ us hl => by obtain ⟨_, _, _, rfl⟩ := Yf hl; rfl
 have F19 := ZA (st := Ql) l19 c19 k19
 have b19 := F19.binds (ps := ["shape", "k"]) fun _ _ _ _ _ _ us hl => by obtain ⟨_, _, rfl⟩ := Ju hl; rfl
 have F20 := ZA (st := Wm) l20 c20 k20
 have b20 := F20.binds (ps := ["box", "way", "at"]) fun _ _ _ _ _ _ us hl => by obtain ⟨_, _, _, rfl⟩ := Yf hl; rfl
 have F21 := ZA (st := JG) l21 c21 k21
 have b21 := F21.binds (ps := ["shape", "spot"]) fun _ _ _ _ _ _ us hl => by obtain ⟨_, _, rfl⟩ := Ju hl; rfl
 have F22 := ZA (st := Xg) l22 c22 k22
 have b22 := F22.binds (ps := ["shape", "spot"]) fun _ _ _ _ _ _ us hl => by obtain ⟨_, _, rfl⟩ := Ju hl; rfl
 have F23 := ZA (st := JF) l23 c23 k23
 have b23 := F23.binds (ps := ["shape", "spot"]) fun _ _ _ _ _ _ us hl => by obtain ⟨_, _, rfl⟩ := Ju hl; rfl
 have F24 := ZA (st := QR) l24 c24 k24
 have b24 := F24.binds (ps := ["shape", "spot"]) fun _ _ _ _ _ _ us hl => by obtain ⟨_, _, rfl⟩ := Ju hl; rfl
 have F25 := ZA (st := J2) l25 c25 k25
 have b25 := F25.binds (ps := ["shape"]) fun _ _ _ _ _ _ us hl => by obtain ⟨_, rfl⟩ := K7 hl; rfl
 have F26 := ZA (st := Qu) l26 c26 k26
 have b26 := F26.binds (ps := ["pieces", "spot"]) fun _ _ _ _ _ _ us hl => by obtain ⟨_, _, rfl⟩ := Ju hl; rfl
 have F27 := ZA (st := Xy) l27 c27 k27
 have b27 := F27.binds (ps := ["shape", "spot"]) fun _ _ _ _ _ _ us hl => by obtain ⟨_, _, rfl⟩ := Ju hl; rfl
 have F28 := ZA (st := QC) l28 c28 k28
 have b28 := F28.binds (ps := ["shape", "spot", "thing"]) fun _ _ _ _ _ _ us hl => by obtain ⟨_, _, _, rfl⟩ := Yf hl; rfl
 have F29 := ZA (st := J8) l29 c29 k29
 have b29 := F29.binds (ps := ["spot", "d", "other"]) fun _ _ _ _ _ _ us hl => by obtain ⟨_, _, _, rfl⟩ := Yf hl; rfl
 have F30 := ZA (st := Qh) l30 c30 k30
 have b30 := F30.binds (ps := ["shape", "spot", "d"]) fun _ _ _ _ _ _ us hl => by obtain ⟨_, _, _, rfl⟩ := Yf hl; rfl
 have F31 := ZA (st := DQ) l31 c31 k31
 have b31 := F31.binds (ps := ["_law_script", "_law_k"]) fun _ _ _ _ _ _ us hl => by obtain ⟨_, _, rfl⟩ := Ju hl; rfl
 have F32 := ZA (st := Ws) l32 c32 k32
 have b32 := F32.binds (ps := ["_law_pen_here", "_law_many"]) fun _ _ _ _ _ _ us hl => by obtain ⟨_, _, rfl⟩ := Ju hl; rfl
 have F33 := ZA (st := Kx) l33 c33 k33
 have b33 := F33.binds (ps := ["_law_pen_here"]) fun _ _ _ _ _ _ us hl => by obtain ⟨_, rfl⟩ := K7 hl; rfl
 have F34 := ZA (st := El) l34 c34 k34
 have b34 := F34.binds (ps := ["_law_pen_here", "_law_box_here"]) fun _ _ _ _ _ _ us hl => by obtain ⟨_, _, rfl⟩ := Ju hl; rfl
 have F35 := ZA (st := Xd) l35 c35 k35
 have b35 := F35.binds (ps := ["_law_pen_here"]) fun _ _ _ _ _ _ us hl => by obtain ⟨_, rfl⟩ := K7 hl; rfl
 have F36 := ZA (st := JJ) l36 c36 k36
 have b36 := F36.binds (ps := ["_law_pen_here"]) fun _ _ _ _ _ _ us hl => by obtain ⟨_, rfl⟩ := K7 hl; rfl
 have F37 := ZA (st := WE) l37 c37 k37
 have b37 := F37.binds (ps := ["_law_boxes_here", "_law_frame_here"]) fun _ _ _ _ _ _ us hl => by obtain ⟨_, _, rfl⟩ := Ju hl; rfl
 have F38 := ZA (st := XA) l38 c38 k38
 have b38 := F38.binds (ps := ["_law_boxes_here"]) fun _ _ _ _ _ _ us hl => by obtain ⟨_, rfl⟩ := K7 hl; rfl
 have F39 := ZA (st := Wt) l39 c39 k39
 have b39 := F39.binds (ps := ["_law_pen_here", "_law_frame_here"]) fun _ _ _ _ _ _ us hl => by obtain ⟨_, _, rfl⟩ := Ju hl; rfl
 have F40 := ZA (st := Xu) l40 c40 k40
 have b40 := F40.binds (ps := ["_law_cell", "_law_frame_here", "_law_spot_here"]) fun _ _ _ _ _ _ us hl => by obtain ⟨_, _, _, rfl⟩ := Yf hl; rfl
 have F41 := ZA (st := Vq) l41 c41 k41
 have b41 := F41.binds (ps := ["_law_cells_here", "_law_frame_here", "_law_spot_here"]) fun _ _ _ _ _ _ us hl => by obtain ⟨_, _, _, rfl⟩ := Yf hl; rfl
 have F42 := ZA (st := Xf) l42 c42 k42
 have b42 := F42.binds (ps := ["_law_one", "_law_box_here"]) fun _ _ _ _ _ _ us hl => by obtain ⟨_, _, rfl⟩ := Ju hl; rfl
 have F43 := ZA (st := Xm) l43 c43 k43
 have b43 := F43.binds (ps := ["_law_box_here", "_law_way", "_law_at"]) fun _ _ _ _ _ _ us hl => by obtain ⟨_, _, _, rfl⟩ := Yf hl; rfl
 have F44 := ZA (st := Xv) l44 c44 k44
 have b44 := F44.binds (ps := ["_law_thing"]) fun _ _ _ _ _ _ us hl => by obtain ⟨_, rfl⟩ := K7 hl; rfl
 have F45 := ZA (st := QS) l45 c45 k45
 have b45 := F45.binds (ps := ["_law_shape", "_law_box_here", "_law_paper"]) fun _ _ _ _ _ _ us hl => by obtain ⟨_, _, _, rfl⟩ := Yf hl; rfl
 have F46 := ZA (st := Xi) l46 c46 k46
 have b46 := F46.binds (ps := ["_law_shape", "_law_box_here", "_law_thing"]) fun _ _ _ _ _ _ us hl => by obtain ⟨_, _, _, rfl⟩ := Yf hl; rfl
 have F47 := ZA (st := Yr) l47 c47 k47
 have b47 := F47.binds (ps := ["_law_shape", "_law_spot_here", "_law_paper"]) fun _ _ _ _ _ _ us hl => by obtain ⟨_, _, _, rfl⟩ := Yf hl; rfl
 have F48 := ZA (st := Q9) l48 c48 k48
 have b48 := F48.binds (ps := ["_law_pen_here", "_law_other", "_law_spot_here"]) fun _ _ _ _ _ _ us hl => by obtain ⟨_, _, _, rfl⟩ := Yf hl; rfl
 have F49 := ZA (st := Wu) l49 c49 k49
 have b49 := F49.binds (ps := ["_law_pen_here", "_law_shape", "_law_spot_here", "_law_paper"]) fun _ _ _ _ _ _ us hl => by obtain ⟨_, _, _, _, rfl⟩ := ZdS hl; rfl
 have F50 := ZA (st := QM) l50 c50 k50
 have b50 := F50.binds (ps := ["_law_shape", "_law_cells_here", "_law_frame_here", "_law_spot_here", "_law_paper"]) fun _ _ _ _ _ _ us hl => by obtain ⟨_, _, _, _, _, rfl⟩ := Zdv hl; rfl
 have F51 := ZA (st := B3) l51 c51 k51
 have b51 := F51.binds (ps := ["_law_script"]) fun _ _ _ _ _ _ us hl => by obtain ⟨_, rfl⟩ := K7 hl; rfl
 let T : Tx K mg := ⟨_, _, ⟨F0, PySem.W.mg_of X G a0, b0⟩, _, _, ⟨F1, PySem.W.mg_of X G a1, b1⟩, _, _, ⟨F2, PySem.W.mg_of X G a2, b2⟩, _, _, ⟨F3, PySem.W.mg_of X G a3, b3⟩, _, _, ⟨F4, PySem.W.mg_of X G a4, b4⟩, _, _, ⟨F5, PySem.W.mg_of X G a5, b5⟩, _, _, ⟨F6, PySem.W.mg_of X G a6, b6⟩, _, _, ⟨F7, PySem.W.mg_of X G a7, b7⟩, _, _, ⟨F8, PySem.W.mg_of X G a8, b8⟩, _, _, ⟨F9, PySem.W.mg_of X G a9, b9⟩, _, _, ⟨F10, PySem.W.mg_of X G a10, b10⟩, _, _, ⟨F11, PySem.W.mg_of X G a11, b11⟩, _, _, ⟨F12, PySem.W.mg_of X G a12, b12⟩, _, _, ⟨F13, PySem.W.mg_of X G a13, b13⟩, _, _, ⟨F14, PySem.W.mg_of X G a14, b14⟩, _, _, ⟨F15, PySem.W.mg_of X G a15, b15⟩, _, _, ⟨F16, PySem.W.mg_of X G a16, b16⟩, _, _, ⟨F17, PySem.W.mg_of X G a17, b17⟩, _, _, ⟨F18, PySem.W.mg_of X G a18, b18⟩, _, _, ⟨F19, PySem.W.mg_of X G a19, b19⟩, _, _, ⟨F20, PySem.W.mg_of X G a20, b20⟩, _, _, ⟨F21, PySem.W.mg_of X G a21, b21⟩, _, _, ⟨F22, PySem.W.mg_of X G a22, b22⟩, _, _, ⟨F23, PySem.W.mg_of X G a23, b23⟩, _, _, ⟨F24, PySem.W.mg_of X G a24, b24⟩, _, _, ⟨F25, PySem.W.mg_of X G a25, b25⟩, _, _, ⟨F26, PySem.W.mg_of X G a26, b26⟩, _, _, ⟨F27, PySem.W.mg_of X G a27, b27⟩, _, _, ⟨F28, PySem.W.mg_of X G a28, b28⟩, _, _, ⟨F29, PySem.W.mg_of X G a29, b29⟩, _, _, ⟨F30, PySem.W.mg_of X G a30, b30⟩, _, _, ⟨F31, PySem.W.mg_of X G a31, b31⟩, _, _, ⟨F32, PySem.W.mg_of X G a32, b32⟩, _, _, ⟨F33, PySem.W.mg_of X G a33, b33⟩, _, _, ⟨F34, PySem.W.mg_of X G a34, b34⟩, _, _, ⟨F35, PySem.W.mg_of X G a35, b35⟩, _, _, ⟨F36, PySem.W.mg_of X G a36, b36⟩, _, _, ⟨F37, PySem.W.mg_of X G a37, b37⟩, _, _, ⟨F38, PySem.W.mg_of X G a38, b38⟩, _, _, ⟨F39, PySem.W.mg_of X G a39, b39⟩, _, _, ⟨F40, PySem.W.mg_of X G a40, b40⟩, _, _, ⟨F41, PySem.W.mg_of X G a41, b41⟩, _, _, ⟨F42, PySem.W.mg_of X G a42, b42⟩, _, _, ⟨F43, PySem.W.mg_of X G a43, b43⟩, _, _, ⟨F44, PySem.W.mg_of X G a44, b44⟩, _, _, ⟨F45, PySem.W.mg_of X G a45, b45⟩, _, _, ⟨F46, PySem.W.mg_of X G a46, b46⟩, _, _, ⟨F47, PySem.W.mg_of X G a47, b47⟩, _, _, ⟨F48, PySem.W.mg_of X G a48, b48⟩, _, _, ⟨F49, PySem.W.mg_of X G a49, b49⟩, _, _, ⟨F50, PySem.W.mg_of X G a50, b50⟩, _, _, ⟨F51, PySem.W.mg_of X G a51, b51⟩, PySem.W.mg_none_of X G z0, PySem.W.mg_none_of X G z1, PySem.W.mg_none_of X G z2, PySem.W.mg_none_of X G z3, PySem.W.mg_none_of X G z4, PySem.W.mg_none_of X G z5, PySem.W.mg_none_of X G z6, PySem.W.mg_none_of X G z7, PySem.W.mg_none_of X G z8, PySem.W.mg_none_of X G z9, PySem.W.mg_none_of X G z10, PySem.W.mg_none_of X G z11, PySem.W.mg_none_of X G z12, PySem.W.mg_none_of X G z13, PySem.W.mg_none_of X G z14⟩
 exact ⟨_, fun s v => .of_eq rfl, fun base _ _ => Zbc T⟩
theorem walk {l : PySem.W.OpenLaw} {q : Program} {loose : List Str} {XP : (Str → Option Value) → Heap → Prop} {YP : World → Heap → Prop} {d : DefRec} {K : Params → PySem.W.Frag} (hn : l.most = some 63) (hdf : d.params.defaults = [])
  (hY : ∀ (w : World) (h : Heap), YP w h → (K w.params).In h)
  (F : ∀ (w : World) (mg : Str → Option Value) (fa : Addr) (h : Heap), (K w.params).In h → h.Ns mainGlobals mg → mg d.name = some (.ref fa) →
   ∃ fd : FuncData, (∀ (s : Shared) (u : Value), BindsTo s fd ⟨[u], []⟩ [("_law_script", u)]) ∧ ∀ base : Heap, (K w.params).In base → base.Ns mainGlobals mg → ZE l.prog w (K w.params) mg base CX0 34 fa fd ["_law_script"] (lift (K w.params) EZ)) :
  PySem.W.WalkO q loose XP YP l.row.toRowW d [] (fun f vs => PySem.call f vs) :=
 L2.Ta (n := 63) (k := 34) (x := "_law_script") (CX := fun _ => CX0) (sp := fun w => lift (K w.params) EZ) hn (by decide) hdf ⟨rfl, by decide, by decide, rfl⟩ hY F
  (fun w H a ns hl hO hS => HM hl hO hS) fun _ _ _ _ _ z => z
end My
theorem PySem.W.Fast.tw1460843316218398184 : True := trivial
theorem PySem.W.Fast.tw13334659766583365837 : True := trivial
theorem PySem.W.Fast.tw11189406831449768414 : True := trivial
theorem PySem.W.Fast.tw14565173114837630868 : True := trivial
theorem PySem.W.Fast.tw17622908984164656589 : True := trivial
theorem PySem.W.Fast.tw7576875417928484802 : True := trivial
theorem PySem.W.Fast.tw14874934601019133123 : True := trivial
theorem PySem.W.Fast.tw8489976448754969225 : True := trivial
theorem PySem.W.Fast.tw11011107720333074856 : True := trivial
theorem PySem.W.Fast.tw13629205158410552872 : True := trivial
theorem PySem.W.Fast.tw12439636326185197824 : True := trivial
theorem PySem.W.Fast.tw4576338986917541639 : True := trivial
theorem PySem.W.Fast.tw17959043026132821645 : True := trivial
theorem PySem.W.Fast.tw5934715253797788976 : True := trivial
theorem PySem.W.Fast.tw13877492299759440813 : True := trivial
theorem PySem.W.Fast.tw3540535870714762007 : True := trivial
theorem PySem.W.Fast.tw11421999369187690215 : True := trivial
theorem PySem.W.Fast.tw11510466435092032419 : True := trivial
theorem PySem.W.Fast.tw8340321222205604566 : True := trivial
theorem PySem.W.Fast.tw7685254777531369234 : True := trivial
theorem PySem.W.Fast.tw4427772352500263479 : True := trivial
theorem PySem.W.Fast.tw17078167424773730307 : True := trivial
theorem PySem.W.Fast.tw16473499619449590587 : True := trivial
theorem PySem.W.Fast.tw14976606673733766786 : True := trivial
theorem PySem.W.Fast.tw12907092767789477044 : True := trivial
theorem PySem.W.Fast.tw12379091723069378847 : True := trivial
theorem PySem.W.Fast.tw14210331344477669764 : True := trivial
theorem PySem.W.Fast.tw8366868043668220836 : True := trivial
theorem PySem.W.Fast.tw12744533428873682988 : True := trivial
theorem PySem.W.Fast.tw17238125957760561187 : True := trivial
theorem PySem.W.Fast.tw1719810718193457738 : True := trivial
theorem PySem.W.Fast.tw4372871107035802624 : True := trivial
theorem PySem.W.Fast.tw10796959681332335753 : True := trivial
theorem PySem.W.Fast.tw6518232643703005258 : True := trivial
theorem PySem.W.Fast.tw17298806668433073039 : True := trivial
theorem PySem.W.Fast.tw7803340579699884701 : True := trivial
theorem PySem.W.Fast.tw1647642736095363892 : True := trivial
theorem PySem.W.Fast.tw13727016350186415678 : True := trivial
theorem PySem.W.Fast.tw16486159797340692864 : True := trivial
theorem PySem.W.Fast.tw14282050392036925132 : True := trivial
theorem PySem.W.Fast.tw14753059813733242010 : True := trivial
theorem PySem.W.Fast.tw18226458151243083407 : True := trivial
theorem PySem.W.Fast.tw3986425368823568425 : True := trivial
theorem PySem.W.Fast.tw9627677956179053991 : True := trivial
theorem PySem.W.Fast.tw9801640663366353494 : True := trivial
theorem PySem.W.Fast.tw3253682228560369191 : True := trivial
theorem PySem.W.Fast.tw6243134928646493463 : True := trivial
theorem PySem.W.Fast.tw2829290591340048295 : True := trivial
theorem PySem.W.Fast.tw17780093413120379664 : True := trivial
theorem PySem.W.Fast.tw3083700066673707959 : True := trivial
theorem PySem.W.Fast.tw7774174475650576636 : True := trivial
theorem PySem.W.Fast.tw13827842864594746814 : True := trivial
theorem PySem.W.Fast.tw7326027957847940004 : True := trivial
theorem PySem.W.Fast.tw10492579465583733415 : True := trivial
theorem PySem.W.Fast.tw2327997929701927630 : True := trivial
theorem PySem.W.Fast.tw11114793091174463396 : True := trivial
theorem PySem.W.Fast.tw15204205713385255947 : True := trivial
theorem PySem.W.Fast.tw9623547177409592527 : True := trivial
theorem PySem.W.Fast.tw8761734746572219355 : True := trivial
theorem PySem.W.Fast.tw4683719976667234068 : True := trivial
theorem PySem.W.Fast.tw4069027195146019137 : True := trivial
theorem PySem.W.Fast.tw1778508309263808663 : True := trivial
theorem PySem.W.Fast.tw15757664987274476109 : True := trivial
theorem PySem.W.Fast.tw16732105387047218505 : True := trivial
theorem PySem.W.Fast.tw4356458632134933000 : True := trivial
theorem PySem.W.Fast.tw11095624276868843926 : True := trivial
theorem PySem.W.Fast.tw9274169454247557041 : True := trivial
theorem PySem.W.Fast.tw1724251443733556202 : True := trivial
theorem PySem.W.Fast.tw4519964120761990495 : True := trivial
theorem PySem.W.Fast.tw3018516774244922598 : True := trivial
theorem PySem.W.Fast.tw17063140730144968083 : True := trivial
theorem PySem.W.Fast.tw8959358883642223266 : True := trivial
theorem PySem.W.Fast.tw1226483422979909493 : True := trivial
theorem PySem.W.Fast.tw10718714085952515193 : True := trivial
theorem PySem.W.Fast.tw16778179408147207192 : True := trivial
theorem PySem.W.Fast.tw17091987394726380660 : True := trivial
theorem PySem.W.Fast.tw10291146656685738125 : True := trivial
theorem PySem.W.Fast.tw14700105295853297149 : True := trivial
theorem PySem.W.Fast.tw7564631516962869970 : True := trivial
theorem PySem.W.Fast.tw11884178453163771901 : True := trivial
theorem PySem.W.Fast.tw12327568623625357046 : True := trivial
theorem PySem.W.Fast.tw517433541040100982 : True := trivial
theorem PySem.W.Fast.tw5341998214430189279 : True := trivial
theorem PySem.W.Fast.tw4159882877132743851 : True := trivial
theorem PySem.W.Fast.tw649202089932896063 : True := trivial
theorem PySem.W.Fast.tw14272630359887158699 : True := trivial
theorem PySem.W.Fast.tw14954144125810472622 : True := trivial
theorem PySem.W.Fast.tw2144621553465723315 : True := trivial
theorem PySem.W.Fast.tw4774208213043232034 : True := trivial
theorem PySem.W.Fast.tw12777712714160294004 : True := trivial
theorem PySem.W.Fast.tw17650634393129232734 : True := trivial
theorem PySem.W.Fast.tw6999262087674437797 : True := trivial
theorem PySem.W.Fast.tw17217111860214721929 : True := trivial
theorem PySem.W.Fast.tw7226329795510266798 : True := trivial
theorem PySem.W.Fast.tw3909594001252502743 : True := trivial
theorem PySem.W.Fast.tw18268347317476233093 : True := trivial
theorem PySem.W.Fast.tw7556242235864937037 : True := trivial
theorem PySem.W.Fast.tw6232250267004117976 : True := trivial
theorem PySem.W.Fast.tw11010382978373015375 : True := trivial
theorem PySem.W.Fast.tw6750073068858188642 : True := trivial
theorem PySem.W.Fast.tw16444017807895965960 : True := trivial
theorem PySem.W.Fast.tw17098451678369700281 : True := trivial
theorem PySem.W.Fast.tw15483956212431110854 : True := trivial
theorem PySem.W.Fast.tw13333525007194084612 : True := trivial
theorem PySem.W.Fast.tw7266848325953880668 : True := trivial
theorem PySem.W.Fast.tw1231490989386993739 : True := trivial
theorem PySem.W.Fast.tw13896167952147441893 : True := trivial
theorem PySem.W.Fast.tw12007345622694916257 : True := trivial
theorem PySem.W.Fast.tw11599821642312397720 : True := trivial
theorem PySem.W.Fast.tw5187350462823307550 : True := trivial
theorem PySem.W.Fast.tw1940862147566011999 : True := trivial
theorem PySem.W.Fast.tw9439909847035001064 : True := trivial
theorem PySem.W.Fast.tw8810421240051251166 : True := trivial
theorem PySem.W.Fast.tw16974560544029549632 : True := trivial
theorem PySem.W.Fast.tw13327279466849694314 : True := trivial
theorem PySem.W.Fast.tw11872262195751116476 : True := trivial
theorem PySem.W.Fast.tw14796609782642253175 : True := trivial
theorem PySem.W.Fast.tw813052361515063944 : True := trivial
theorem PySem.W.Fast.tw9070630631156382582 : True := trivial
theorem PySem.W.Fast.tw11953176227110661107 : True := trivial
theorem PySem.W.Fast.tw7530210766659414348 : True := trivial
theorem PySem.W.Fast.tw12617035890526465047 : True := trivial
theorem PySem.W.Fast.tw4492289916822426638 : True := trivial
theorem PySem.W.Fast.tw9735581728166904208 : True := trivial
theorem PySem.W.Fast.tw8359611247673571876 : True := trivial
theorem PySem.W.Fast.tw1339729961083239398 : True := trivial
theorem PySem.W.Fast.tw1749264974887462196 : True := trivial
theorem PySem.W.Fast.tw13537788024054609507 : True := trivial
theorem PySem.W.Fast.tw8946061157777219483 : True := trivial
theorem PySem.W.Fast.tw5271612212487037587 : True := trivial
theorem PySem.W.Fast.tw10938574628780688085 : True := trivial
theorem PySem.W.Fast.tw15716857474936778422 : True := trivial
theorem PySem.W.Fast.tw7792988280621891358 : True := trivial
theorem PySem.W.Fast.tw4077429146060101315 : True := trivial
theorem PySem.W.Fast.tw15979330023604647930 : True := trivial
theorem PySem.W.Fast.tw4612053976978752091 : True := trivial
theorem PySem.W.Fast.tw2582724056170962254 : True := trivial
theorem PySem.W.Fast.tw16260771308325063811 : True := trivial
theorem PySem.W.Fast.tw10474981040651001681 : True := trivial
theorem PySem.W.Fast.tw2200041512897692953 : True := trivial
theorem PySem.W.Fast.tw514589528271797353 : True := trivial
theorem PySem.W.Fast.tw6321196088956894315 : True := trivial
theorem PySem.W.Fast.tw18169772579236383883 : True := trivial
theorem PySem.W.Fast.tw11990515268447797346 : True := trivial
theorem PySem.W.Fast.tw3774037005975708173 : True := trivial
theorem PySem.W.Fast.tw14700393841340492498 : True := trivial
theorem PySem.W.Fast.tw13267109314205188672 : True := trivial
theorem PySem.W.Fast.tw18064740077910392104 : True := trivial
theorem PySem.W.Fast.tw2846336775338245490 : True := trivial
theorem PySem.W.Fast.tw3313423286122187757 : True := trivial
theorem PySem.W.Fast.tw11506454344706493054 : True := trivial
theorem PySem.W.Fast.tw8326774675895077909 : True := trivial
theorem PySem.W.Fast.tw15180221713911969159 : True := trivial
theorem PySem.W.Fast.tw9846415306168944487 : True := trivial
theorem PySem.W.Fast.tw16831422948961094859 : True := trivial
theorem PySem.W.Fast.tw16464102828970882101 : True := trivial
theorem PySem.W.Fast.tw13746092598626246091 : True := trivial
theorem PySem.W.Fast.tw15612609764810235572 : True := trivial
theorem PySem.W.Fast.tw2675416344711966900 : True := trivial
theorem PySem.W.Fast.tw15204188969253016295 : True := trivial
theorem PySem.W.Fast.tw18214614202574101308 : True := trivial
theorem PySem.W.Fast.tw3560723780151738367 : True := trivial
theorem PySem.W.Fast.tw214771189223209661 : True := trivial
theorem PySem.W.Fast.tw13589675945598433424 : True := trivial
theorem PySem.W.Fast.tw4536470876058438125 : True := trivial
theorem PySem.W.Fast.tw10328342739728966536 : True := trivial
theorem PySem.W.Fast.tw4355955549964549586 : True := trivial
theorem PySem.W.Fast.tw10757640425097876564 : True := trivial
theorem PySem.W.Fast.tw86290991994802626 : True := trivial
theorem PySem.W.Fast.tw2990088261772547050 : True := trivial
theorem PySem.W.Fast.tw12333586191669640573 : True := trivial
theorem PySem.W.Fast.tw9854382276085154803 : True := trivial
theorem PySem.W.Fast.tw4212178588699207193 : True := trivial
theorem PySem.W.Fast.tw10216822231634814491 : True := trivial
theorem PySem.W.Fast.tw18251035647963174980 : True := trivial
theorem PySem.W.Fast.tw16957021288904150776 : True := trivial
theorem PySem.W.Fast.tw6436390137394292768 : True := trivial
theorem PySem.W.Fast.tw430117847639556840 : True := trivial
theorem PySem.W.Fast.tw13692235457751606798 : True := trivial
theorem PySem.W.Fast.tw3768837685572748813 : True := trivial
theorem PySem.W.Fast.tw346088099413667732 : True := trivial
theorem PySem.W.Fast.tw7815007896553167970 : True := trivial
theorem PySem.W.Fast.tw4860211987412725811 : True := trivial
theorem PySem.W.Fast.tw8944827590936494075 : True := trivial
theorem PySem.W.Fast.tw16150475218777385192 : True := trivial
theorem PySem.W.Fast.tw12768032776424265121 : True := trivial
theorem PySem.W.Fast.tw11265119416664079345 : True := trivial
theorem PySem.W.Fast.tw12768016014694709667 : True := trivial
theorem PySem.W.Fast.tw11007672979968109407 : True := trivial
theorem PySem.W.Fast.tw15669128644316418771 : True := trivial
theorem PySem.W.Fast.tw2423899675002113528 : True := trivial
theorem PySem.W.Fast.tw8096970064022339855 : True := trivial
theorem PySem.W.Fast.tw10480501468919796778 : True := trivial
theorem PySem.W.Fast.tw6086340369918641014 : True := trivial
theorem PySem.W.Fast.tw16647412371516432595 : True := trivial
theorem PySem.W.Fast.tw2708634510312275554 : True := trivial
theorem PySem.W.Fast.tw3235683198827140357 : True := trivial
theorem PySem.W.Fast.tw4709124364784915083 : True := trivial
theorem PySem.W.Fast.tw7286268337169361475 : True := trivial
theorem PySem.W.Fast.tw15102906895595448846 : True := trivial
theorem PySem.W.Fast.tw5176143560152418865 : True := trivial
theorem PySem.W.Fast.tw4382359826943330187 : True := trivial
theorem PySem.W.Fast.tw2760218526670085733 : True := trivial
theorem PySem.W.Fast.tw10135536600684806422 : True := trivial
theorem PySem.W.Fast.tw9545486097433800719 : True := trivial
theorem PySem.W.Fast.tw4316412385195488801 : True := trivial
theorem PySem.W.Fast.tw15181525135238679192 : True := trivial
theorem PySem.W.Fast.tw10228941407467712011 : True := trivial
theorem PySem.W.Fast.tw1612405795464413224 : True := trivial
theorem PySem.W.Fast.tw6632522390241650948 : True := trivial
theorem PySem.W.Fast.tw16011497088629075758 : True := trivial
theorem PySem.W.Fast.tw1204829511874979982 : True := trivial
theorem PySem.W.Fast.tw11360229699958255433 : True := trivial
theorem PySem.W.Fast.tw4638448138970424049 : True := trivial
theorem PySem.W.Fast.tw7633724459185910126 : True := trivial
theorem PySem.W.Fast.tw1449300447776568034 : True := trivial
theorem PySem.W.Fast.tw4265107711153101844 : True := trivial
theorem PySem.W.Fast.tw6142425586381098455 : True := trivial
theorem PySem.W.Fast.tw17456365410528635415 : True := trivial
theorem PySem.W.Fast.tw1816454472275632929 : True := trivial
theorem PySem.W.Fast.tw7253231550276928877 : True := trivial
theorem PySem.W.Fast.tw17150527623200805837 : True := trivial
theorem PySem.W.Fast.tw10648954353736036759 : True := trivial
theorem PySem.W.Fast.tw1807651953622966550 : True := trivial
theorem PySem.W.Fast.tw362165386541258543 : True := trivial
theorem PySem.W.Fast.tw13666980169849008951 : True := trivial
theorem PySem.W.Fast.tw6939918692749425791 : True := trivial
theorem PySem.W.Fast.tw6288330910233898030 : True := trivial
theorem PySem.W.Fast.tw6757021446756353850 : True := trivial
theorem PySem.W.Fast.tw884352618813661054 : True := trivial
theorem PySem.W.Fast.tw9280116446273176966 : True := trivial
theorem PySem.W.Fast.tw10785383566444385281 : True := trivial
theorem PySem.W.Fast.tw16661585705850344433 : True := trivial
theorem PySem.W.Fast.tw8307347089851167352 : True := trivial
theorem PySem.W.Fast.tw11363748809137084802 : True := trivial
theorem PySem.W.Fast.tw5993596124725306905 : True := trivial
theorem PySem.W.Fast.tw5851321845106527196 : True := trivial
theorem PySem.W.Fast.tw3705518503754896744 : True := trivial
theorem PySem.W.Fast.tw3349194213639264568 : True := trivial
theorem PySem.W.Fast.tw1995624205159870927 : True := trivial
theorem PySem.W.Fast.tw4921278102889888647 : True := trivial
theorem PySem.W.Fast.tw7722052996662910768 : True := trivial
theorem PySem.W.Fast.tw926300028196265698 : True := trivial
theorem PySem.W.Fast.tw2542317159403023732 : True := trivial
theorem PySem.W.Fast.tw13503208959334112975 : True := trivial
theorem PySem.W.Fast.tw13618574497598095583 : True := trivial
theorem PySem.W.Fast.tw7146332017436886054 : True := trivial
theorem PySem.W.Fast.tw17967070654687647207 : True := trivial
theorem PySem.W.Fast.tw10746126290586698171 : True := trivial
theorem PySem.W.Fast.tw8021568063385062915 : True := trivial
theorem PySem.W.Fast.tw15847045830008089535 : True := trivial
theorem PySem.W.Fast.tw6102985461609717797 : True := trivial
theorem PySem.W.Fast.tw7527052201700791123 : True := trivial
theorem PySem.W.Fast.tw2705255699688819318 : True := trivial
theorem PySem.W.Fast.tw6823248179030405376 : True := trivial
theorem PySem.W.Fast.tw1861272791927971100 : True := trivial
theorem PySem.W.Fast.tw17783117574365078542 : True := trivial
theorem PySem.W.Fast.tw18027091691260223040 : True := trivial
theorem PySem.W.Fast.tw18281534693135397999 : True := trivial
theorem PySem.W.Fast.tw8805320570589087559 : True := trivial
theorem PySem.W.Fast.tw14149450795673578241 : True := trivial
theorem PySem.W.Fast.tw17673378373321269328 : True := trivial
theorem PySem.W.Fast.tw1682692305707016852 : True := trivial
theorem PySem.W.Fast.tw17949819103066055784 : True := trivial
theorem PySem.W.Fast.tw14122539195214855535 : True := trivial
theorem PySem.W.Fast.tw5213731651404807739 : True := trivial
theorem PySem.W.Fast.tw4632712753121694806 : True := trivial
theorem PySem.W.Fast.tw2053181391073193558 : True := trivial
theorem PySem.W.Fast.tw6745501064442752860 : True := trivial
theorem PySem.W.Fast.tw6827236806756316358 : True := trivial
theorem PySem.W.Fast.tw10251136408157400805 : True := trivial
theorem PySem.W.Fast.tw18077726475309827114 : True := trivial
theorem PySem.W.Fast.tw14430442474075619072 : True := trivial
theorem PySem.W.Fast.tw7758442299224555417 : True := trivial
theorem PySem.W.Fast.tw8269507294277756183 : True := trivial
theorem PySem.W.Fast.tw10947080830578496556 : True := trivial
theorem PySem.W.Fast.tw17753564098994143027 : True := trivial
theorem PySem.W.Fast.tw415596986674989791 : True := trivial
theorem PySem.W.Fast.tw8703570248587889256 : True := trivial
theorem PySem.W.Fast.tw624222693399368332 : True := trivial
theorem PySem.W.Fast.tw11485350432866914441 : True := trivial
theorem PySem.W.Fast.tw6318138014938721654 : True := trivial
theorem PySem.W.Fast.tw6264895176380233951 : True := trivial
theorem PySem.W.Fast.tw10216504733659092893 : True := trivial
theorem PySem.W.Fast.tw1376301277632050198 : True := trivial
theorem PySem.W.Fast.tw10032758798080069521 : True := trivial
theorem PySem.W.Fast.tw13660953472094018885 : True := trivial
theorem PySem.W.Fast.tw16159470921636313135 : True := trivial
theorem PySem.W.Fast.tw18036605465492665873 : True := trivial
theorem PySem.W.Fast.tw14975179496555689392 : True := trivial
theorem PySem.W.Fast.tw7264114593549797851 : True := trivial
theorem PySem.W.Fast.tw640296369383303143 : True := trivial
theorem PySem.W.Fast.tw17372858461264131639 : True := trivial
theorem PySem.W.Fast.tw346246457287038140 : True := trivial
theorem PySem.W.Fast.tw2997921025554083331 : True := trivial
theorem PySem.W.Fast.tw2647751360208268576 : True := trivial
theorem PySem.W.Fast.tw11734136774508701382 : True := trivial
theorem PySem.W.Fast.tw2448481328427979718 : True := trivial
theorem PySem.W.Fast.tw10214030770772952354 : True := trivial
theorem PySem.W.Fast.tw3638476404063799493 : True := trivial
theorem PySem.W.Fast.tw369502950673512151 : True := trivial
theorem PySem.W.Fast.tw10690697178669460919 : True := trivial
theorem PySem.W.Fast.tw9804766967373628064 : True := trivial
theorem PySem.W.Fast.tw14404651079708460166 : True := trivial
theorem PySem.W.Fast.tw9531290064366984356 : True := trivial
theorem PySem.W.Fast.tw171136142138923858 : True := trivial
theorem PySem.W.Fast.tw16838166370202243448 : True := trivial
theorem PySem.W.Fast.tw1267503074572108835 : True := trivial
theorem PySem.W.Fast.tw2683433822498699477 : True := trivial
theorem PySem.W.Fast.tw5073316726265703825 : True := trivial
open PySem PySem.W PyProof.Rows
set_option maxRecDepth 100000 in
set_option maxHeartbeats 0 in
theorem PySem.Challenge.cw_landsentered_k14_shows_spoilt_holds : PySem.Challenge.rw_landsentered_k14_shows_spoilt.Holds := by
 w_on; o_law; k_head; (case hw => w_witness2)
 k_fill
 refine My.walk (l := PySem.Challenge.rw_landsentered_k14_shows_spoilt) rfl rfl (fun w h Y => PySem.W.kIn_of Y) ?F
 case F =>
  intro w mg fa h KX G hmg
  refine' My.all_mk KX G hmg ?a0 ?l0 ?c0 ?k0 ?a1 ?l1 ?c1 ?k1 ?a2 ?l2 ?c2 ?k2 ?a3 ?l3 ?c3 ?k3 ?a4 ?l4 ?c4 ?k4 ?a5 ?l5 ?c5 ?k5 ?a6 ?l6 ?c6 ?k6 ?a7 ?l7 ?c7 ?k7 ?a8 ?l8 ?c8 ?k8 ?a9 ?l9 ?c9 ?k9 ?a10 ?l10 ?c10 ?k10 ?a11 ?l11 ?c11 ?k11 ?a12 ?l12 ?c12 ?k12 ?a13 ?l13 ?c13 ?k13 ?a14 ?l14 ?c14 ?k14 ?a15 ?l15 ?c15 ?k15 ?a16 ?l16 ?c16 ?k16 ?a17 ?l17 ?c17 ?k17 ?a18 ?l18 ?c18 ?k18 ?a19 ?l19 ?c19 ?k19 ?a20 ?l20 ?c20 ?k20 ?a21 ?l21 ?c21 ?k21 ?a22 ?l22 ?c22 ?k22 ?a23 ?l23 ?c23 ?k23 ?a24 ?l24 ?c24 ?k24 ?a25 ?l25 ?c25 ?k25 ?a26 ?l26 ?c26 ?k26 ?a27 ?l27 ?c27 ?k27 ?a28 ?l28 ?c28 ?k28 ?a29 ?l29 ?c29 ?k29 ?a30 ?l30 ?c30 ?k30 ?a31 ?l31 ?c31 ?k31 ?a32 ?l32 ?c32 ?k32 ?a33 ?l33 ?c33 ?k33 ?a34 ?l34 ?c34 ?k34 ?a35 ?l35 ?c35 ?k35 ?a36 ?l36 ?c36 ?k36 ?a37 ?l37 ?c37 ?k37 ?a38 ?l38 ?c38 ?k38 ?a39 ?l39 ?c39 ?k39 ?a40 ?l40 ?c40 ?k40 ?a41 ?l41 ?c41 ?k41 ?a42 ?l42 ?c42 ?k42 ?a43 ?l43 ?c43 ?k43 ?a44 ?l44 ?c44 ?k44 ?a45 ?l45 ?c45 ?k45 ?a46 ?l46 ?c46 ?k46 ?a47 ?l47 ?c47 ?k47 ?a48 ?l48 ?c48 ?k48 ?a49 ?l49 ?c49 ?k49 ?a50 ?l50 ?c50 ?k50 ?a51 ?l51 ?c51 ?k51 ?z0 ?z1 ?z2 ?z3 ?z4 ?z5 ?z6 ?z7 ?z8 ?z9 ?z10 ?z11 ?z12 ?z13 ?z14
  (case a0 => k_is)
  (case l0 => k_is)
  (case c0 => k_is)
  (case k0 => k_is)
  (case a1 => k_is)
  (case l1 => k_is)
  (case c1 => k_is)
  (case k1 => k_is)
  (case a2 => k_is)
  (case l2 => k_is)
  (case c2 => k_is)
  (case k2 => k_is)
  (case a3 => k_is)
  (case l3 => k_is)
  (case c3 => k_is)
  (case k3 => k_is)
  (case a4 => k_is)
  (case l4 => k_is)
  (case c4 => k_is)
  (case k4 => k_is)
  (case a5 => k_is)
  (case l5 => k_is)
  (case c5 => k_is)
  (case k5 => k_is)
  (case a6 => k_is)
  (case l6 => k_is)
  (case c6 => k_is)
  (case k6 => k_is)
  (case a7 => k_is)
  (case l7 => k_is)
  (case c7 => k_is)
  (case k7 => k_is)
  (case a8 => k_is)
  (case l8 => k_is)
  (case c8 => k_is)
  (case k8 => k_is)
  (case a9 => k_is)
  (case l9 => k_is)
  (case c9 => k_is)
  (case k9 => k_is)
  (case a10 => k_is)
  (case l10 => k_is)
  (case c10 => k_is)
  (case k10 => k_is)
  (case a11 => k_is)
  (case l11 => k_is)
  (case c11 => k_is)
  (case k11 => k_is)
  (case a12 => k_is)
  (case l12 => k_is)
  (case c12 => k_is)
  (case k12 => k_is)
  (case a13 => k_is)
  (case l13 => k_is)
  (case c13 => k_is)
  (case k13 => k_is)
  (case a14 => k_is)
  (case l14 => k_is)
  (case c14 => k_is)
  (case k14 => k_is)
  (case a15 => k_is)
  (case l15 => k_is)
  (case c15 => k_is)
  (case k15 => k_is)
  (case a16 => k_is)
  (case l16 => k_is)
  (case c16 => k_is)
  (case k16 => k_is)
  (case a17 => k_is)
  (case l17 => k_is)
  (case c17 => k_is)
  (case k17 => k_is)
  (case a18 => k_is)
  (case l18 => k_is)
  (case c18 => k_is)
  (case k18 => k_is)
  (case a19 => k_is)
  (case l19 => k_is)
  (case c19 => k_is)
  (case k19 => k_is)
  (case a20 => k_is)
  (case l20 => k_is)
  (case c20 => k_is)
  (case k20 => k_is)
  (case a21 => k_is)
  (case l21 => k_is)
  (case c21 => k_is)
  (case k21 => k_is)
  (case a22 => k_is)
  (case l22 => k_is)
  (case c22 => k_is)
  (case k22 => k_is)
  (case a23 => k_is)
  (case l23 => k_is)
  (case c23 => k_is)
  (case k23 => k_is)
  (case a24 => k_is)
  (case l24 => k_is)
  (case c24 => k_is)
  (case k24 => k_is)
  (case a25 => k_is)
  (case l25 => k_is)
  (case c25 => k_is)
  (case k25 => k_is)
  (case a26 => k_is)
  (case l26 => k_is)
  (case c26 => k_is)
  (case k26 => k_is)
  (case a27 => k_is)
  (case l27 => k_is)
  (case c27 => k_is)
  (case k27 => k_is)
  (case a28 => k_is)
  (case l28 => k_is)
  (case c28 => k_is)
  (case k28 => k_is)
  (case a29 => k_is)
  (case l29 => k_is)
  (case c29 => k_is)
  (case k29 => k_is)
  (case a30 => k_is)
  (case l30 => k_is)
  (case c30 => k_is)
  (case k30 => k_is)
  (case a31 => k_is)
  (case l31 => k_is)
  (case c31 => k_is)
  (case k31 => k_is)
  (case a32 => k_is)
  (case l32 => k_is)
  (case c32 => k_is)
  (case k32 => k_is)
  (case a33 => k_is)
  (case l33 => k_is)
  (case c33 => k_is)
  (case k33 => k_is)
  (case a34 => k_is)
  (case l34 => k_is)
  (case c34 => k_is)
  (case k34 => k_is)
  (case a35 => k_is)
  (case l35 => k_is)
  (case c35 => k_is)
  (case k35 => k_is)
  (case a36 => k_is)
  (case l36 => k_is)
  (case c36 => k_is)
  (case k36 => k_is)
  (case a37 => k_is)
  (case l37 => k_is)
  (case c37 => k_is)
  (case k37 => k_is)
  (case a38 => k_is)
  (case l38 => k_is)
  (case c38 => k_is)
  (case k38 => k_is)
  (case a39 => k_is)
  (case l39 => k_is)
  (case c39 => k_is)
  (case k39 => k_is)
  (case a40 => k_is)
  (case l40 => k_is)
  (case c40 => k_is)
  (case k40 => k_is)
  (case a41 => k_is)
  (case l41 => k_is)
  (case c41 => k_is)
  (case k41 => k_is)
  (case a42 => k_is)
  (case l42 => k_is)
  (case c42 => k_is)
  (case k42 => k_is)
  (case a43 => k_is)
  (case l43 => k_is)
  (case c43 => k_is)
  (case k43 => k_is)
  (case a44 => k_is)
  (case l44 => k_is)
  (case c44 => k_is)
  (case k44 => k_is)
  (case a45 => k_is)
  (case l45 => k_is)
  (case c45 => k_is)
  (case k45 => k_is)
  (case a46 => k_is)
  (case l46 => k_is)
  (case c46 => k_is)
  (case k46 => k_is)
  (case a47 => k_is)
  (case l47 => k_is)
  (case c47 => k_is)
  (case k47 => k_is)
  (case a48 => k_is)
  (case l48 => k_is)
  (case c48 => k_is)
  (case k48 => k_is)
  (case a49 => k_is)
  (case l49 => k_is)
  (case c49 => k_is)
  (case k49 => k_is)
  (case a50 => k_is)
  (case l50 => k_is)
  (case c50 => k_is)
  (case k50 => k_is)
  (case a51 => k_is)
  (case l51 => k_is)
  (case c51 => k_is)
  (case k51 => k_is)
  (case z0 => k_is)
  (case z1 => k_is)
  (case z2 => k_is)
  (case z3 => k_is)
  (case z4 => k_is)
  (case z5 => k_is)
  (case z6 => k_is)
  (case z7 => k_is)
  (case z8 => k_is)
  (case z9 => k_is)
  (case z10 => k_is)
  (case z11 => k_is)
  (case z12 => k_is)
  (case z13 => k_is)
  (case z14 => k_is)
