import PyProof.Rows.All
import Wide.All
import OpenK.AllK
import Wide.FinOn
import Lean
import PyProof.EqAt
import PyProof.EqKinds
import PyProof.TupleCall
import PyProof.ReprRoads
import PyProof.EqLayable
import PyProof.NeData
import PyProof.Rows.TupDisplay
import PySem.Challenge.RW_landsentered_k22_looks_within_lands
set_option Elab.async false
set_option linter.all false
set_option maxRecDepth 100000
set_option compiler.extract_closed false
set_option bootstrap.genMatcherCode false
theorem zz0 (h : True := by first | exact .inl rfl | exact .inr rfl | assumption) : True := h
theorem zz1 (h : True := by decide) : True := h
theorem zz2 (h : True := by intro _; rfl) : True := h
theorem zz3 (h : True := by rfl) : True := h
theorem zz4 (h : True := by with_unfolding_all rfl) : True := h
theorem zz5 (h : True := by first | exact Or.inl rfl | exact Or.inr (Or.inl rfl) | exact Or.inr (Or.inr rfl)) : True := h
theorem zz6 (h : True := by first | exact OT _ | rfl) : True := h
theorem zz7 (h : True := by intro _ _; rfl) : True := h
theorem zz8 (h : True := by first | exact Or.inl rfl | exact Or.inr rfl) : True := h
theorem zz9 (h : True := by exact List.cons_ne_nil _ _) : True := h
namespace L2
open PySem PySem.Spec PyProof.Rows
abbrev Key := Sum Int Str
noncomputable def Ua : Key → Value → Bool
 | .inl k, v => Value.isInt k v
 | .inr x, v => Value.isStrOf x v
noncomputable def Zgc (w : World) : Key → Int
 | .inl k => hashInt k
 | .inr x => hashStr w x
theorem ZX : ∀ {k : Key} {v : Value}, Ua k v = true → (∃ i t, k = Sum.inl i ∧ v = Value.int i t) ∨ (∃ x t, k = Sum.inr x ∧ v = Value.str x t)
 | .inl i, v, h => by
  obtain ⟨t, e⟩ := Value.isInt_shape (k := i) (v := v) h
  exact .inl ⟨i, t, rfl, e⟩
 | .inr x, v, h => by
  obtain ⟨t, e⟩ := Value.isStrOf_shape (x := x) (v := v) h
  exact .inr ⟨x, t, rfl, e⟩
theorem EZ (i : Int) (t : Tok) : Ua (.inl i) (.int i t) = true := by simp [Ua, Value.isInt]
theorem Ep (x : Str) (t : Tok) : Ua (.inr x) (.str x t) = true := by simp [Ua, Value.isStrOf]
theorem TQ (a b : Int) : decide ((Sum.inl a : Key) = Sum.inl b) = (a == b) := by
 by_cases e : a = b
 ·subst e; simp
 ·have h : ¬ (Sum.inl a : Key) = Sum.inl b := fun q => e (Sum.inl.inj q)
  rw [decide_eq_false h]
  exact (beq_eq_false_iff_ne.mpr e).symm
theorem Zam (a b : Str) : decide ((Sum.inr a : Key) = Sum.inr b) = decide (a = b) := by
 by_cases e : a = b
 ·subst e; simp
 ·have h : ¬ (Sum.inr a : Key) = Sum.inr b := fun q => e (Sum.inr.inj q)
  rw [decide_eq_false h, decide_eq_false e]
theorem ZcO (a : Int) (b : Str) : decide ((Sum.inl a : Key) = Sum.inr b) = false := decide_eq_false (fun q => nomatch q)
theorem ZcF (a : Str) (b : Int) : decide ((Sum.inr a : Key) = Sum.inl b) = false := decide_eq_false (fun q => nomatch q)
noncomputable def ZW (prog : Program) (w : World) : PySem.KeyKind prog w Key where
 is := Ua
 hash := Zgc w
 inj := fun v a b ha hb => by
  rcases ZX ha with ⟨i, t, rfl, rfl⟩ | ⟨x, t, rfl, rfl⟩
  ·rcases ZX hb with ⟨j, u, rfl, e⟩ | ⟨y, u, rfl, e⟩
   ·injection e with e1 _; rw [e1]
   ·exact nomatch e
  ·rcases ZX hb with ⟨j, u, rfl, e⟩ | ⟨y, u, rfl, e⟩
   ·exact nomatch e
   ·injection e with e1 _; rw [e1]
 byValue := fun k v h => by
  rcases ZX h with ⟨i, t, rfl, rfl⟩ | ⟨x, t, rfl, rfl⟩ <;> rfl
 pyHash := fun hv h => by
  rcases ZX hv with ⟨i, t, rfl, rfl⟩ | ⟨x, t, rfl, rfl⟩
  ·exact wpAny_pyHash_int h
  ·exact wpAny_pyHash_str h
 eqBool := fun hu hv h => by
  rcases ZX hu with ⟨i, t, rfl, rfl⟩ | ⟨x, t, rfl, rfl⟩
  ·rcases ZX hv with ⟨j, u, rfl, rfl⟩ | ⟨y, u, rfl, rfl⟩
   ·rw [TQ] at h; exact wpAny_eqBool_int h
   ·rw [ZcO] at h; exact SeqAt.EqAt.int_str i t y u _ _ _ _ h
  ·rcases ZX hv with ⟨j, u, rfl, rfl⟩ | ⟨y, u, rfl, rfl⟩
   ·rw [ZcF] at h; exact SeqAt.EqAt.str_int x t j u _ _ _ _ h
   ·rw [Zam] at h; exact wpAny_eqBool_str h
 «strs» := fun k x t v h => by
  rcases ZX h with ⟨i, u, rfl, e⟩ | ⟨y, u, rfl, e⟩
  ·exact nomatch e
  ·injection e with e1 _
   subst e1
   cases v <;> rfl
theorem Gy (prog : Program) (w : World) (i : Int) (t : Tok) : (ZW prog w).is (.inl i) (.int i t) = true := EZ i t
theorem Uq (prog : Program) (w : World) (x : Str) (t : Tok) : (ZW prog w).is (.inr x) (.str x t) = true := Ep x t
end L2
namespace L2
open PySem PySem.Spec PyProof.Rows
inductive V where
 | non | bl (b : Bool) | int (i : Int) | str (x : Str) | byt (b : Array UInt8) | flt (b : UInt64) | ref (a : Addr) | ty (n : String)
 deriving DecidableEq
def RelV : V → Value → Prop
 | .non, u => u = Value.none
 | .bl b, u => u = Value.bool b
 | .int i, u => ∃ t, u = Value.int i t
 | .str x, u => ∃ t, u = Value.str x t
 | .byt b, u => ∃ t, u = Value.bytes b t
 | .flt b, u => ∃ t, u = Value.float b t
 | .ref a, u => u = Value.ref a
 | .ty n, u => u = Value.type n
abbrev Vals : List V → List Value → Prop := Paired RelV
theorem Vals.length {xs : List V} {us : List Value} (r : Vals xs us) : xs.length = us.length := Paired.length r
theorem Vals.get : ∀ {xs : List V} {us : List Value} {i : Nat} {x : V}, Vals xs us → xs[i]? = some x → ∃ u, us[i]? = some u ∧ RelV x u
 | _, _, _, _, .nil, e => by simp at e
 | _, _, 0, _, .cons r _, e => by simp at e; subst e; exact ⟨_, rfl, r⟩
 | _, _, i + 1, x, .cons _ t, e => by
  obtain ⟨u, h1, h2⟩ := Vals.get (i := i) (x := x) t (by simpa using e)
  exact ⟨u, by simpa using h1, h2⟩
theorem Vals.set {x : V} {u : Value} (r : RelV x u) : ∀ {xs : List V} {us : List Value} (i : Nat), Vals xs us → Vals (xs.set i x) (us.set i u)
 | _, _, _, .nil => .nil
 | _, _, 0, .cons _ t => .cons r t
 | _, _, i + 1, .cons q t => .cons q (Vals.set r i t)
theorem Vals.append : ∀ {xs ys : List V} {us ws : List Value}, Vals xs us → Vals ys ws → Vals (xs ++ ys) (us ++ ws)
 | _, _, _, _, .nil, s => s
 | _, _, _, _, .cons r t, s => .cons r (Vals.append t s)
theorem Vals.take : ∀ {xs : List V} {us : List Value} (n : Nat), Vals xs us → Vals (xs.take n) (us.take n)
 | _, _, 0, _ => .nil
 | _, _, _ + 1, .nil => .nil
 | _, _, n + 1, .cons r t => .cons r (Vals.take n t)
theorem Vals.drop : ∀ {xs : List V} {us : List Value} (n : Nat), Vals xs us → Vals (xs.drop n) (us.drop n)
 | _, _, 0, r => r
 | _, _, _ + 1, .nil => .nil
 | _, _, n + 1, .cons _ t => Vals.drop n t
def CO : Option V → Option Value → Prop
 | some v, some u => RelV v u
 | none, none => True
 | _, _ => False
def KV {κ : Type} : List (κ × V) → List (κ × Value) → Prop := Paired fun (p : κ × V) (q : κ × Value) => p.1 = q.1 ∧ RelV p.2 q.2
noncomputable def kV : Key → V
 | .inl i => .int i
 | .inr x => .str x
inductive HO where
  | lst (xs : List V)
  | tup (xs : List V)
  | dK (kvs : List (Key × V)) | dT (kvs : List (List Key × V))
  | set (S : Int → Bool) (n : Nat)
  | ins (C dx : Addr) (fs : List (Str × V))
  | own (x : Addr)
  | xd (fs : List (Str × V))
  | met (f x : Addr)
  | rng (lo hi : Int)
  | frz (o : Obj) (u : HO)
  | tbl (ps : Array Value)
  | ext (φ : Heap → Prop)
abbrev Hp := Addr → Option HO
noncomputable def upd (H : Hp) (a : Addr) (o : HO) : Hp := fun b => if b = a then some o else H b
theorem Z8 {H : Hp} {a : Addr} {o : HO} : upd H a o a = some o := by unfold upd; rw [if_pos rfl]
theorem ZC {H : Hp} {a b : Addr} {o : HO} (h : b ≠ a) : upd H a o b = H b := by unfold upd; rw [if_neg h]
theorem ZdL {H : Hp} {a b : Addr} {o u : HO} (h : H a = some o) (h' : H b = some u) (d : o ≠ u) : a ≠ b := by
 intro e; subst e; rw [h] at h'; exact d (Option.some.inj h')
theorem Zr {H : Hp} {a b : Addr} {o : HO} (h : H a = some o) (h' : H b = none) : a ≠ b := by
 intro e; subst e; rw [h] at h'; cases h'
section
variable (P : Program) (w : World)
def Qh (H : Hp) (h : Heap) (a : Addr) : HO → Prop
 | .lst xs => xs.length ≤ sizeLine ∧ ∃ (its : List Value) (n : Nat), Vals xs its ∧ h.get? a = some { cls := .type "list", data := .seq its.toArray n }
 | .tup xs => xs.length ≤ sizeLine ∧ ∃ its : List Value, Vals xs its ∧ IsTup h a its.toArray
 | .dK kvs => kvs.length ≤ sizeLine ∧ (a == sysModules) = false ∧ ∃ vs, KV kvs vs ∧ h.DictOf (ZW P w) a vs
 | .dT kvs => kvs.length ≤ sizeLine ∧ (a == sysModules) = false ∧ ∃ xs : List (List Key × Addr × Value),
   Paired (fun (p : List Key × V) (q : List Key × Addr × Value) => p.1 = q.1 ∧ H q.2.1 = some (.tup (p.1.map kV)) ∧ RelV p.2 q.2.2) kvs xs ∧
   ∃ o es ep, h.get? a = some o ∧ o.ExactDict ∧ o.data = .dict es ep ∧ es.toList = xs.map (entryOfKey (tupleKind (ZW P w))) ∧ (xs.map (·.1)).Nodup
 | .set S n => h.SetOf (intKind P w) a S n
 | .ins C dx fs => H dx = some (.own a) ∧ fs.length ≤ 1000 ∧ dx ≠ a ∧ h.get? a = some (PySem.W.instObj C dx) ∧
   ∃ mA, h.Ns1 dx mA ∧ (∀ f, CO (fs.lookup f) (mA f)) ∧ PySem.Within mA (fs.map (·.1))
 | .own _ => ∃ o, h.get? a = some o
 | .xd fs => ∃ mA, h.Ns1 a mA ∧ ∀ f, CO (fs.lookup f) (mA f)
 | .rng lo hi => ∃ t u v, h.get? a = some { cls := .type "range", data := .fields #[.int lo t, .int hi u, .int 1 v] }
 | .frz o u => h.get? a = some o ∧ Qh H h a u
 | .tbl ps => h.get? a = some { cls := .none, data := .fields ps }
 | .met f x => h.get? a = some (PySem.W.methodObj (.ref f) (.ref x))
 | .ext φ => φ h ∧ (∃ o, h.get? a = some o) ∧ ∀ h1 h2 : Heap, φ h1 → (∀ o, h1.get? a = some o → h2.get? a = some o) → φ h2
def HOk (H : Hp) (h : Heap) : Prop := ∀ a o, H a = some o → Qh P w H h a o
end
section
variable {P : Program} {w : World} {H H' : Hp} {h h' : Heap} {a : Addr} {o : HO}
theorem Qh.lt (x : Qh P w H h a o) : a < h.objs.size := by
 cases o with
 | lst xs => obtain ⟨_, _, _, _, e⟩ := x; exact Heap.lt_size e
 | tup xs => obtain ⟨_, _, _, p⟩ := x; exact p.lt
 | dK kvs => obtain ⟨_, _, _, _, o, _, _, e, _⟩ := x; exact Heap.lt_size e
 | dT kvs => obtain ⟨_, _, _, _, o, _, _, e, _⟩ := x; exact Heap.lt_size e
 | set S n => obtain ⟨o, _, _, _, e, _⟩ := x; exact Heap.lt_size e
 | ins C dx fs => obtain ⟨_, _, _, e, _⟩ := x; exact Heap.lt_size e
 | own y => obtain ⟨_, e⟩ := x; exact Heap.lt_size e
 | xd fs => obtain ⟨_, ⟨_, _, _, e, _⟩, _⟩ := x; exact Heap.lt_size e
 | rng lo hi => obtain ⟨_, _, _, e⟩ := x; exact Heap.lt_size e
 | frz ob u => obtain ⟨e, _⟩ := x; exact Heap.lt_size e
 | tbl ps => exact Heap.lt_size (show h.get? a = some _ from x)
 | met f y => exact Heap.lt_size (show h.get? a = some _ from x)
 | ext φ => obtain ⟨_, ⟨_, e⟩, _⟩ := x; exact Heap.lt_size e
theorem Paired.TK {α β : Type} {F G : α → β → Prop} : ∀ {l₁ : List α} {l₂ : List β}, Paired F l₁ l₂ → (∀ a b, F a b → G a b) → Paired G l₁ l₂
 | _, _, .nil, _ => .nil
 | _, _, .cons r t, f => .cons (f _ _ r) (Paired.TK t f)
theorem Qh.Of (x : Qh P w H h a o) (k : ∀ b u, (b = a ∨ H b = some (.own a)) → h.get? b = some u → h'.get? b = some u)
  (ho : ∀ b, H b = some (.own a) → H' b = some (.own a)) (ht : ∀ b xs, H b = some (.tup xs) → H' b = some (.tup xs)) : Qh P w H' h' a o := by
 induction o with
 | lst xs => obtain ⟨z, its, n, r, e⟩ := x; exact ⟨z, its, n, r, k _ _ (.inl rfl) e⟩
 | tup xs => obtain ⟨z, its, r, ob, e, c⟩ := x; exact ⟨z, its, r, ob, k _ _ (.inl rfl) e, c⟩
 | dK kvs => obtain ⟨z, y, vs, r, ob, es, ep, e, c⟩ := x; exact ⟨z, y, vs, r, ob, es, ep, k _ _ (.inl rfl) e, c⟩
 | dT kvs =>
  obtain ⟨z, y, xs, r, ob, es, ep, e, c⟩ := x
  exact ⟨z, y, xs, Paired.TK r fun p q z => ⟨z.1, ht _ _ z.2.1, z.2.2⟩, ob, es, ep, k _ _ (.inl rfl) e, c⟩
 | set S n => obtain ⟨ob, es, ep, t, e, c⟩ := x; exact ⟨ob, es, ep, t, k _ _ (.inl rfl) e, c⟩
 | ins C dx fs =>
  obtain ⟨d, z, ne, e, mA, ⟨od, es, ep, e2, c⟩, r⟩ := x
  exact ⟨ho _ d, z, ne, k _ _ (.inl rfl) e, mA, ⟨od, es, ep, k _ _ (.inr d) e2, c⟩, r⟩
 | own y => obtain ⟨ob, e⟩ := x; exact ⟨ob, k _ _ (.inl rfl) e⟩
 | xd fs => obtain ⟨mA, ⟨od, es, ep, e, c⟩, r⟩ := x; exact ⟨mA, ⟨od, es, ep, k _ _ (.inl rfl) e, c⟩, r⟩
 | rng lo hi => obtain ⟨t, u, v, e⟩ := x; exact ⟨t, u, v, k _ _ (.inl rfl) e⟩
 | frz ob u ih => obtain ⟨e, q⟩ := x; exact ⟨k _ _ (.inl rfl) e, ih q⟩
 | tbl ps =>
  have e : h.get? a = some { cls := .none, data := .fields ps } := x
  show h'.get? a = some { cls := .none, data := .fields ps }
  exact k a _ (.inl rfl) e
 | met f y =>
  have e : h.get? a = some (PySem.W.methodObj (.ref f) (.ref y)) := x
  show h'.get? a = some (PySem.W.methodObj (.ref f) (.ref y))
  exact k a _ (.inl rfl) e
 | ext φ => obtain ⟨p, ⟨o, e⟩, st⟩ := x; exact ⟨st _ _ p fun o q => k _ _ (.inl rfl) q, ⟨o, k _ _ (.inl rfl) e⟩, st⟩
theorem HOk.lt (x : HOk P w H h) (e : H a = some o) : a < h.objs.size := (x a o e).lt
theorem HOk.fresh (x : HOk P w H h) (e : h.objs.size ≤ a) : H a = none := by
 cases q : H a with
 | none => rfl
 | some u => exact absurd (Nat.lt_of_lt_of_le (x.lt q) e) (Nat.lt_irrefl _)
theorem HOk.kept (x : HOk P w H h) (k : ∀ b u, h.get? b = some u → h'.get? b = some u) : HOk P w H h' := fun a o e =>
 (x a o e).Of (fun b u _ q => k b u q) (fun _ q => q) fun _ _ q => q
theorem HOk.laid (x : HOk P w H h) (k : ∀ b u, h.get? b = some u → h'.get? b = some u) (hp : h.objs.size ≤ a) (new : Qh P w (upd H a o) h' a o) : HOk P w (upd H a o) h' := fun b u e => by
 have hn := x.fresh hp
 by_cases hb : b = a
 ·subst hb; rw [Z8] at e; cases e; exact new
 ·rw [ZC hb] at e
  exact (x b u e).Of (fun c v _ q => k c v q) (fun c q => by rw [ZC (Zr q hn)]; exact q) fun c xs q => by rw [ZC (Zr q hn)]; exact q
end
def Rd (H : Hp) (a : Addr) (u : HO) : Prop := H a = some u ∨ ∃ o, H a = some (.frz o u)
theorem Rd.of {H : Hp} {a : Addr} {u : HO} (h : H a = some u) : Rd H a u := .inl h
theorem Rd.ok {P : Program} {w : World} {H : Hp} {h : Heap} {a : Addr} {u : HO} (r : Rd H a u) (x : HOk P w H h) : Qh P w H h a u := by
 rcases r with r | ⟨o, r⟩
 ·exact x a u r
 ·obtain ⟨_, q⟩ := x a _ r
  exact q
def Mut : Option HO → Prop
 | some (.lst _) => True
 | some (.dK _) => True
 | some (.dT _) => True
 | some (.set _ _) => True
 | some (.ins _ _ _) => True
 | some (.ext _) => True
 | _ => False
section
variable {P : Program} {w : World} {H : Hp} {h h' : Heap} {x e : Addr} {o' : HO}
theorem HOk.write (ok : HOk P w H h) (mu : Mut (H x)) (he : e = x ∨ H e = some (.own x)) (k : ∀ b u, b ≠ e → h.get? b = some u → h'.get? b = some u) (heo : ∃ u, h'.get? e = some u)
  (new : Qh P w (upd H x o') h' x o') : HOk P w (upd H x o') h' := fun b u q => by
 have nown : ∀ c y, H c = some (.own y) → c ≠ x := fun c y r z => by subst z; rw [r] at mu; exact mu
 have ntup : ∀ c xs, H c = some (.tup xs) → c ≠ x := fun c xs r z => by subst z; rw [r] at mu; exact mu
 by_cases hb : b = x
 ·subst hb; rw [Z8] at q; cases q; exact new
 ·rw [ZC hb] at q
  by_cases hbe : b = e
  ·have q' : H b = some (.own x) := by
    rcases he with z | z
    ·exact absurd (hbe.trans z) hb
    ·rw [hbe]; exact z
   rw [q] at q'; cases q'
   obtain ⟨v, hv⟩ := heo
   exact ⟨v, by rw [hbe]; exact hv⟩
  ·refine (ok b u q).Of (fun c v hc r => k c v ?_ r) (fun c r => by rw [ZC (nown c b r)]; exact r) fun c xs r => by rw [ZC (ntup c xs r)]; exact r
   rcases hc with rfl | hc
   ·exact hbe
   ·rintro rfl
    rcases he with z | z
    ·exact nown c b hc z
    ·rw [hc] at z; cases z; exact hb rfl
end
structure Un (fs ex : List Addr) (H H' : Hp) (h h' : Heap) : Prop where
 keep : ∀ b o, h.get? b = some o → H b = none → b ∉ fs → b ∉ ex → h'.get? b = some o
 slot : ∀ b o, h.get? b = some o → H b = none → b ∈ fs → b ∉ ex → ∃ sl, h'.get? b = some { o with slots := sl }
 free : ∀ b o, h.get? b = some o → H b = none → b ∉ ex → H' b = none
 there : ∀ b o, h.get? b = some o → b ∉ ex → ∃ o', h'.get? b = some o'
 tups : ∀ b xs, H b = some (.tup xs) → H' b = some (.tup xs)
 frzs : ∀ b o u, H b = some (.frz o u) → H' b = some (.frz o u)
 tbls : ∀ b ps, H b = some (.tbl ps) → ∃ more, H' b = some (.tbl (ps ++ more))
section
variable {fs fs' ex ex' : List Addr} {H H1 H2 : Hp} {h h1 h2 h' : Heap} {a x e : Addr} {o : HO}
theorem Un.any (u : Un fs ex H H1 h h1) {b : Addr} {ob : Obj} (q : h.get? b = some ob) (n : H b = none) (hx : b ∉ ex) : ∃ sl, h1.get? b = some { ob with slots := sl } := by
 by_cases hb : b ∈ fs
 ·exact u.slot b ob q n hb hx
 ·exact ⟨ob.slots, u.keep b ob q n hb hx⟩
theorem Un.trans (a : Un fs ex H H1 h h1) (b : Un fs ex H1 H2 h1 h2) : Un fs ex H H2 h h2 where
 keep := fun c ob q n hc hx => b.keep c ob (a.keep c ob q n hc hx) (a.free c ob q n hx) hc hx
 slot := fun c ob q n hc hx => by
  obtain ⟨sl, e1⟩ := a.slot c ob q n hc hx
  obtain ⟨sl', e2⟩ := b.slot c _ e1 (a.free c ob q n hx) hc hx
  exact ⟨sl', e2⟩
 free := fun c ob q n hx => by
  obtain ⟨o', e1⟩ := a.there c ob q hx
  exact b.free c o' e1 (a.free c ob q n hx) hx
 there := fun c ob q hx => by
  obtain ⟨o', e1⟩ := a.there c ob q hx
  exact b.there c o' e1 hx
 tups := fun c xs q => b.tups c xs (a.tups c xs q)
 frzs := fun c ob xs q => b.frzs c ob xs (a.frzs c ob xs q)
 tbls := fun c ps q => by
  obtain ⟨m1, e1⟩ := a.tbls c ps q
  obtain ⟨m2, e2⟩ := b.tbls c _ e1
  exact ⟨m1 ++ m2, by rw [e2, Array.append_assoc]⟩
theorem Un.kept (k : ∀ b u, h.get? b = some u → h'.get? b = some u) : Un fs ex H H h h' :=
 ⟨fun b ob q _ _ _ => k b ob q, fun b ob q _ _ _ => ⟨ob.slots, k b ob q⟩, fun _ _ _ n _ => n, fun b ob q _ => ⟨ob, k b ob q⟩, fun _ _ q => q, fun _ _ _ q => q, fun _ ps q => ⟨#[], by rw [q]; simp⟩⟩
theorem Un.refl : Un fs ex H H h h := Un.kept fun _ _ q => q
theorem Un.laid (k : ∀ b u, h.get? b = some u → h'.get? b = some u) (hp : h.objs.size ≤ a) (hn : H a = none) : Un fs ex H (upd H a o) h h' where
 keep := fun b u q _ _ _ => k b u q
 slot := fun b u q _ _ _ => ⟨u.slots, k b u q⟩
 free := fun b u q n _ => by rw [ZC (Nat.ne_of_lt (Nat.lt_of_lt_of_le (Heap.lt_size q) hp))]; exact n
 there := fun b u q _ => ⟨u, k b u q⟩
 tups := fun b xs q => by rw [ZC (Zr q hn)]; exact q
 frzs := fun b u xs q => by rw [ZC (Zr q hn)]; exact q
 tbls := fun b ps q => ⟨#[], by rw [ZC (Zr q hn), q]; simp⟩
theorem Un.write (mu : Mut (H x)) (he : e = x ∨ H e = some (.own x)) (k : ∀ b u, b ≠ e → h.get? b = some u → h'.get? b = some u) (heo : ∃ u, h'.get? e = some u) : Un fs ex H (upd H x o) h h' := by
 have hx : ∀ b, H b = none → b ≠ x := fun b n z => by subst z; rw [n] at mu; exact mu
 have hb : ∀ b, H b = none → b ≠ e := fun b n z => by
  subst z
  rcases he with r | r
  ·exact hx b n r
  ·rw [n] at r; cases r
 have hm : ∀ b u, H b = some u → ¬ Mut (some u) → b ≠ x := fun b u q nm z => by subst z; rw [q] at mu; exact nm mu
 refine ⟨fun b u q n _ _ => k b u (hb b n) q, fun b u q n _ _ => ⟨u.slots, k b u (hb b n) q⟩, fun b u q n _ => by rw [ZC (hx b n)]; exact n, fun b u q _ => ?_,
  fun b xs q => by rw [ZC (hm b _ q fun z => z)]; exact q, fun b u xs q => by rw [ZC (hm b _ q fun z => z)]; exact q, fun b ps q => ⟨#[], by rw [ZC (hm b _ q fun z => z), q]; simp⟩⟩
 by_cases hbe : b = e
 ·subst hbe; exact heo
 ·exact ⟨u, k b u hbe q⟩
end
noncomputable def trk (h : Heap) (H : Hp) : List Addr := (List.range h.objs.size).filter fun a => (H a).isSome
noncomputable def MB (h : Heap) (H : Hp) : Heap := PySem.W.hideAll h (trk h H)
theorem Hk (h : Heap) (H : Hp) : (MB h H).objs.size = h.objs.size := PySem.W.hideAll_size _ _
theorem Lb {h : Heap} {H : Hp} {b : Addr} {o : Obj} (e : h.get? b = some o) (n : H b = none) : (MB h H).get? b = some o :=
 PySem.W.hideAll_get _ e fun hm => by
  have q : (H b).isSome = true := (List.mem_filter.mp hm).2
  rw [n] at q; simp at q
theorem RZ {h : Heap} {H : Hp} {b : Addr} {o : Obj} (e : (MB h H).get? b = some o) : h.get? b = some o ∧ H b = none := by
 have e' : h.get? b = some o := PySem.W.of_hideAll (trk h H) e
 refine ⟨e', ?_⟩
 cases q : H b with
 | none => rfl
 | some x =>
  have hm : b ∈ trk h H := List.mem_filter.mpr ⟨List.mem_range.mpr (Heap.lt_size e'), by simp [q]⟩
  have z : (MB h H).get? b = none := PySem.W.hideAll_none (trk h H) hm
  rw [z] at e; cases e
noncomputable def O8 (g h : Heap) (L : Addr) : List (Addr × Obj) := (List.range h.objs.size).filterMap fun a => if a = L ∨ (g.get? a).isSome = true then none else (h.get? a).map fun o => (a, o)
noncomputable def rest (g h : Heap) (L d : Addr) : List (Addr × Obj) := (O8 g h L).filter fun p => decide (p.1 ≠ d)
end L2
namespace L2
open PySem PySem.Spec PyProof.Rows
structure Mod (K : PySem.W.Frag) (mg : Str → Option Value) (base : Heap) : Prop where
 kin : K.In base
 glob : base.Ns mainGlobals mg
 blt : ∃ mb, base.Ns builtinsNs mb ∧ ∀ x : Str, x ≠ "__name__" → mb x = bootBuiltins x
 nolimit : base.NoLimit
structure Cx where
 prog : Program
 w : World
 K : PySem.W.Frag
 mg : Str → Option Value
 base : Heap
 A : Around
 N : List Str
 s₀ : Shared
 H₀ : Hp
 env : Env
 outer : List Env
 stack : List Env
 ex : List Addr
 fn : Str → Bool
 calm : Bool
 pn : List (Addr × Obj)
 xe : Value → Shared → Prop
noncomputable def frs (l : List Env) : List Addr := l.filterMap (·.frame)
noncomputable abbrev Cx.fs (X : Cx) : List Addr := frs X.outer
def Vis (sc : Scope) (x : Str) : Prop := sc.names.lookup x = some .local ∨ sc.names.lookup x = some .cell ∨ sc.names.lookup x = some .free
def Loc (sc : Scope) (x : Str) : Prop := sc.names.lookup x = some .local ∨ sc.names.lookup x = some .cell
def Look (env : Env) (h : Heap) (m : Str → Option Value) (x : Str) (u : Value) : Prop :=
 (env.kindOf x = some .local ∧ m x = some u) ∨ ((env.kindOf x = some .cell ∨ env.kindOf x = some .free) ∧ ∃ c, env.cells.lookup x = some c ∧ h.IsCell c (some u))
structure Cx.Ok (X : Cx) : Prop where
 mod : Mod X.K X.mg X.base
 kind : X.env.scope.kind = .function
 glob : X.env.globals = mainGlobals
 blt : X.env.builtins = builtinsNs
 above : X.s₀.heap.objs.size ≤ X.env.locals
 inj : ∀ x y c, X.env.cells.lookup x = some c → X.env.cells.lookup y = some c → x = y
 has : ∀ x, (X.env.kindOf x = some .cell ∨ X.env.kindOf x = some .free) → ∃ c, X.env.cells.lookup x = some c
 cab : ∀ x c, X.fn x = true → X.env.cells.lookup x = some c → X.s₀.heap.objs.size ≤ c
 hd : X.calm = true → X.A.handled = none
 frames : X.A.frames = some X.stack
 stk : X.stack = X.outer ∨ (X.stack = X.env :: X.outer ∧ X.env.frame = some X.env.locals)
 exf : ∀ b ∈ X.ex, b ≠ X.env.locals ∧ ∀ x c, X.env.cells.lookup x = some c → c ≠ b
 bs : ∀ b o, X.base.get? b = some o → X.s₀.heap.get? b = some o ∧ X.H₀ b = none
 bsz : X.base.objs.size ≤ X.s₀.heap.objs.size
 noex : ∀ b o, X.base.get? b = some o → b ∉ X.ex
 exfs : ∀ b ∈ X.ex, b ∉ X.fs
 Hc : X.s₀.heap.FunFrames X.base X.outer
 frf : ∀ b ∈ X.fs, X.H₀ b = none
structure Inv (X : Cx) (pins : List (Addr × Obj)) (σ : List (Option V)) (H : Hp) (s : Shared) : Prop where
 ok : X.Ok
 os : s.os = X.s₀.os
 bare : AllBare s.gens
 base : Un X.fs X.ex X.H₀ H X.s₀.heap s.heap
 loc : ∃ m, s.heap.Ns X.env.locals m ∧ ∀ (i : Nat) (x : Str) (v : V), X.N[i]? = some x → σ[i]? = some (some v) → Vis X.env.scope x → ∃ u, RelV v u ∧ Look X.env s.heap m x u
 cell : ∀ x c, X.env.cells.lookup x = some c → ∃ v, s.heap.IsCell c v
 free : H X.env.locals = none
 freeC : ∀ x c, X.env.cells.lookup x = some c → H c = none
 pin : ∀ p ∈ X.pn ++ pins, s.heap.get? p.1 = some p.2 ∧ H p.1 = none ∧ p.1 ≠ X.env.locals ∧ p.1 ∉ X.fs ∧ ∀ v, p.2.data ≠ .cell v
 hok : HOk X.prog X.w H s.heap
 len : σ.length = X.N.length
section
variable {X : Cx} {pins : List (Addr × Obj)} {σ : List (Option V)} {H H' : Hp} {s : Shared} {h' : Heap}
theorem Cx.Ok.ZgJ (ok : X.Ok) {b : Addr} {o : Obj} (e : X.base.get? b = some o) : b ∉ X.fs := fun hb => by
 have := (ok.Hc.mem hb).1
 rw [e] at this; cases this
theorem Inv.bs (I : Inv X pins σ H s) : ∀ b o, X.base.get? b = some o → s.heap.get? b = some o ∧ H b = none := fun b o e =>
 ⟨I.base.keep b o (I.ok.bs b o e).1 (I.ok.bs b o e).2 (I.ok.ZgJ e) (I.ok.noex b o e), I.base.free b o (I.ok.bs b o e).1 (I.ok.bs b o e).2 (I.ok.noex b o e)⟩
theorem Inv.bk (I : Inv X pins σ H s) : ∀ b o, X.base.get? b = some o → s.heap.get? b = some o := fun b o e => (I.bs b o e).1
theorem Inv.mod (I : Inv X pins σ H s) : Mod X.K X.mg X.base := I.ok.mod
theorem Inv.kIn (I : Inv X pins σ H s) : X.K.In s.heap := I.ok.mod.kin.keeps I.bk
theorem Inv.fr (I : Inv X pins σ H s) : ∃ m, Fr X.base X.env.locals s.heap m :=
 let ⟨m, hn, _⟩ := I.loc
 ⟨m, hn, I.bk, Nat.le_trans I.ok.bsz I.ok.above⟩
theorem Inv.lt (I : Inv X pins σ H s) : X.env.locals < s.heap.objs.size := let ⟨_, hn, _⟩ := I.loc; hn.lt
theorem Inv.sz (I : Inv X pins σ H s) : X.s₀.heap.objs.size ≤ s.heap.objs.size := Nat.le_trans I.ok.above (Nat.le_of_lt I.lt)
theorem Inv.ZgM (I : Inv X pins σ H s) {a : Addr} (h : s.heap.objs.size ≤ a) : a ∉ X.fs := fun hb => by
 obtain ⟨_, o, ho, _⟩ := I.ok.Hc.mem hb
 exact absurd (Nat.lt_of_lt_of_le (Heap.lt_size ho) (Nat.le_trans I.sz h)) (Nat.lt_irrefl _)
theorem Inv.cne (I : Inv X pins σ H s) : ∀ x c, X.env.cells.lookup x = some c → c ≠ X.env.locals := fun x c e z => by
 obtain ⟨v, o, ho, hd⟩ := I.cell x c e
 obtain ⟨m, ⟨o', es, ep, ho', hd', _⟩, _⟩ := I.loc
 rw [z, ho'] at ho; cases ho; rw [hd'] at hd; cases hd
theorem Inv.Hc (I : Inv X pins σ H s) : s.heap.FunFrames X.base X.outer := by
 have all : ∀ (l : List Env), (∀ b ∈ frs l, b ∈ X.fs) → X.s₀.heap.FunFrames X.base l → s.heap.FunFrames X.base l := by
  intro l
  induction l with
  | nil => intro _ _; trivial
  | cons env r ih =>
   intro hs hl
   obtain ⟨hk, ⟨L, o, hf, hn, ho, hd⟩, hr⟩ := hl
   have hL : L ∈ X.fs := hs L (by unfold frs; rw [List.filterMap_cons, hf]; exact List.mem_cons_self)
   obtain ⟨sl, e⟩ := I.base.slot L o ho (I.ok.frf L hL) hL fun z => I.ok.exfs L z hL
   exact ⟨hk, ⟨L, _, hf, hn, e, hd⟩, ih (fun b hb => hs b (by unfold frs; rw [List.filterMap_cons, hf]; exact List.mem_cons_of_mem _ hb)) hr⟩
 exact all X.outer (fun _ hb => hb) I.ok.Hc
theorem Inv.stack (I : Inv X pins σ H s) : s.heap.FunFrames X.base X.stack := by
 rcases I.ok.stk with e | ⟨e, hf⟩
 ·rw [e]; exact I.Hc
 ·rw [e]
  obtain ⟨m, hn, _⟩ := I.loc
  refine .cons (by rw [I.ok.kind]; decide) hf hn ?_ I.Hc
  exact Heap.get?_none_of_le (Nat.le_trans I.ok.bsz I.ok.above)
theorem Inv.Et (I : Inv X pins σ H s) : ∀ b ∈ frs X.stack, b ∈ X.env.locals :: X.fs := fun b hb => by
 rcases I.ok.stk with e | ⟨e, hf⟩
 ·rw [e] at hb; exact List.mem_cons_of_mem _ hb
 ·rw [e] at hb
  unfold frs at hb
  rw [List.filterMap_cons, hf] at hb
  exact hb
theorem Inv.Du (I : Inv X pins σ H s) : ∀ b ∈ frs X.stack, H b = none := fun b hb => by
 rcases List.mem_cons.mp (I.Et b hb) with e | hb
 ·rw [e]; exact I.free
 ·obtain ⟨_, o, ho, _⟩ := I.ok.Hc.mem hb
  exact I.base.free b o ho (I.ok.frf b hb) fun z => I.ok.exfs b z hb
theorem Inv.step {g' : Array GenState} {t' : Nat} {d' : Drawn} {ch : List Addr} (I : Inv X pins σ H s)
  (hch : ∀ b ∈ ch, (b ∈ X.ex ∨ X.s₀.heap.objs.size ≤ b) ∧ b ≠ X.env.locals ∧ (∀ x c, X.env.cells.lookup x = some c → c ≠ b) ∧ ∀ p ∈ X.pn ++ pins, p.1 ≠ b)
  (keep : ∀ b o, b ≠ X.env.locals → b ∉ X.fs → b ∉ ch → s.heap.get? b = some o → H b = none → h'.get? b = some o)
  (slot : ∀ b o, b ≠ X.env.locals → b ∈ X.fs → b ∉ ch → s.heap.get? b = some o → H b = none → ∃ sl, h'.get? b = some { o with slots := sl }) (free : ∀ b o, b ∉ ch → s.heap.get? b = some o → H b = none → H' b = none)
  (there : ∀ b o, b ∉ ch → s.heap.get? b = some o → ∃ o', h'.get? b = some o')
  (tups : ∀ b xs, H b = some (.tup xs) → H' b = some (.tup xs)) (frzs : ∀ b o u, H b = some (.frz o u) → H' b = some (.frz o u)) (tbls : ∀ b ps, H b = some (.tbl ps) → ∃ more, H' b = some (.tbl (ps ++ more)))
  (ns : ∀ m, s.heap.Ns X.env.locals m → h'.Ns X.env.locals m) (hok : HOk X.prog X.w H' h') (hg : AllBare g') :
  Inv X pins σ H' { s with heap := h', gens := g', drawn := d', toks := t' } := by
 have neL : ∀ b o, X.s₀.heap.get? b = some o → b ≠ X.env.locals := fun b o e => Nat.ne_of_lt (Nat.lt_of_lt_of_le (Heap.lt_size e) I.ok.above)
 have neC : ∀ b o, X.s₀.heap.get? b = some o → b ∉ X.ex → b ∉ ch := fun b o e hx hb => by
  rcases (hch b hb).1 with z | z
  ·exact hx z
  ·exact absurd (Nat.lt_of_lt_of_le (Heap.lt_size e) z) (Nat.lt_irrefl _)
 have cellK : ∀ x c, X.env.cells.lookup x = some c → ∀ v, s.heap.IsCell c v → h'.IsCell c v := fun x c e v ⟨o, ho, hd⟩ => by
  have nch : c ∉ ch := fun z => (hch c z).2.2.1 x c e rfl
  by_cases hc : c ∈ X.fs
  ·obtain ⟨sl, q⟩ := slot c o (I.cne x c e) hc nch ho (I.freeC x c e)
   exact ⟨_, q, hd⟩
  ·exact ⟨o, keep c o (I.cne x c e) hc nch ho (I.freeC x c e), hd⟩
 refine ⟨I.ok, I.os, hg, ⟨fun b o e n hb hx => ?_, fun b o e n hb hx => ?_, fun b o e n hx => ?_, fun b o e hx => ?_, fun b xs e => tups b xs (I.base.tups b xs e), fun b o xs e => frzs b o xs (I.base.frzs b o xs e), fun b ps e => ?_⟩, ?_, fun x c e => ?_, ?_, fun x c e => ?_, fun p hp => ?_, hok, I.len⟩
 ·exact keep b o (neL b o e) hb (neC b o e hx) (I.base.keep b o e n hb hx) (I.base.free b o e n hx)
 ·obtain ⟨sl, e1⟩ := I.base.slot b o e n hb hx
  obtain ⟨sl', e2⟩ := slot b _ (neL b o e) hb (neC b o e hx) e1 (I.base.free b o e n hx)
  exact ⟨sl', e2⟩
 ·obtain ⟨o', e1⟩ := I.base.there b o e hx
  exact free b o' (neC b o e hx) e1 (I.base.free b o e n hx)
 ·obtain ⟨o', e1⟩ := I.base.there b o e hx
  exact there b o' (neC b o e hx) e1
 ·obtain ⟨m1, e1⟩ := I.base.tbls b ps e
  obtain ⟨m2, e2⟩ := tbls b _ e1
  exact ⟨m1 ++ m2, by rw [e2, Array.append_assoc]⟩
 ·obtain ⟨m, hn, hl⟩ := I.loc
  refine ⟨m, ns m hn, fun i x v e1 e2 e3 => ?_⟩
  obtain ⟨u, r, l⟩ := hl i x v e1 e2 e3
  refine ⟨u, r, ?_⟩
  rcases l with l | ⟨k, c, e, z⟩
  ·exact .inl l
  ·exact .inr ⟨k, c, e, cellK x c e _ z⟩
 ·obtain ⟨v, z⟩ := I.cell x c e
  exact ⟨v, cellK x c e v z⟩
 ·obtain ⟨m, ⟨o, _, _, ho, _⟩, _⟩ := I.loc
  exact free _ o (fun z => (hch _ z).2.1 rfl) ho I.free
 ·obtain ⟨v, o, ho, hd⟩ := I.cell x c e
  exact free c o (fun z => (hch c z).2.2.1 x c e rfl) ho (I.freeC x c e)
 ·obtain ⟨e, n, ne, nf, d⟩ := I.pin p hp
  have nch : p.1 ∉ ch := fun z => (hch p.1 z).2.2.2 p hp rfl
  exact ⟨keep p.1 p.2 ne nf nch e n, free p.1 p.2 nch e n, ne, nf, d⟩
theorem Inv.un {t' : Nat} (I : Inv X pins σ H s) (u : Un X.fs [] H H' s.heap h') (hok : HOk X.prog X.w H' h') : Inv X pins σ H' { s with heap := h', toks := t' } := by
 obtain ⟨m, ⟨o, es, ep, ho, r⟩, _⟩ := id I.loc
 obtain ⟨sl, hL⟩ := u.any ho I.free (by simp)
 exact I.step (g' := s.gens) (d' := s.drawn) (ch := []) (fun _ z => nomatch z) (fun b o _ hb _ e n => u.keep b o e n hb (by simp)) (fun b o _ hb _ e n => u.slot b o e n hb (by simp)) (fun b o _ e n => u.free b o e n (by simp)) (fun b o _ e => u.there b o e (by simp)) u.tups u.frzs u.tbls (fun m' hm => by
  obtain ⟨o', es', ep', ho', r'⟩ := hm
  rw [ho] at ho'; cases ho'
  exact ⟨_, es', ep', hL, r'⟩) hok I.bare
theorem Inv.call {g' : Array GenState} {t' : Nat} {d' : Drawn} {ch : List Addr} (I : Inv X pins σ H s) (u : Un (frs X.stack) ch H H' s.heap h') (hok : HOk X.prog X.w H' h') (hg : AllBare g')
  (hch : ∀ b ∈ ch, (b ∈ X.ex ∨ X.s₀.heap.objs.size ≤ b) ∧ b ≠ X.env.locals ∧ (∀ x c, X.env.cells.lookup x = some c → c ≠ b) ∧ ∀ p ∈ X.pn ++ pins, p.1 ≠ b) :
  Inv X pins σ H' { s with heap := h', gens := g', drawn := d', toks := t' } := by
 obtain ⟨m, ⟨o, es, ep, ho, r⟩, _⟩ := id I.loc
 obtain ⟨sl, hL⟩ := u.any ho I.free fun z => (hch _ z).2.1 rfl
 exact I.step (ch := ch) hch (fun b o hL hb hc e n => u.keep b o e n (fun z => (List.mem_cons.mp (I.Et b z)).elim hL hb) hc) (fun b o _ _ hc e n => u.any e n hc) (fun b o hc e n => u.free b o e n hc) (fun b o hc e => u.there b o e hc) u.tups u.frzs u.tbls (fun m' hm => by
  obtain ⟨o', es', ep', ho', r'⟩ := hm
  rw [ho] at ho'; cases ho'
  exact ⟨_, es', ep', hL, r'⟩) hok hg
theorem Inv.turned {t' : Nat} {it : Addr} (I : Inv X pins σ H s) (k : ∀ b o, b ≠ it → s.heap.get? b = some o → h'.get? b = some o) (hn : H it = none) (hL : it ≠ X.env.locals)
  (h1 : it ∈ X.ex ∨ X.s₀.heap.objs.size ≤ it) (h2 : ∀ x c, X.env.cells.lookup x = some c → c ≠ it) (h3 : ∀ p ∈ X.pn ++ pins, p.1 ≠ it) : Inv X pins σ H { s with heap := h', toks := t' } := by
 have nit : ∀ b u, H b = some u → b ≠ it := fun b u e z => by rw [z, hn] at e; cases e
 refine I.step (g' := s.gens) (d' := s.drawn) (ch := [it]) (fun b hb => ?_) (fun b o _ _ hc e _ => k b o (fun z => hc (by simp [z])) e) (fun b o _ _ hc e _ => ⟨o.slots, k b o (fun z => hc (by simp [z])) e⟩) (fun _ _ _ _ n => n)
  (fun b o hc e => ⟨o, k b o (fun z => hc (by simp [z])) e⟩) (fun _ _ e => e) (fun _ _ _ e => e) (fun b ps e => ⟨#[], by rw [e]; simp⟩) (fun m hm => ?_) (fun b u e => ?_) I.bare
 ·have e : b = it := by simpa using hb
  subst e
  exact ⟨h1, hL, h2, h3⟩
 ·obtain ⟨o, es, ep, ho, r⟩ := hm
  exact ⟨o, es, ep, k _ o (Ne.symm hL) ho, r⟩
 ·refine (I.hok b u e).Of (fun c v hc q => k c v ?_ q) (fun _ q => q) fun _ _ q => q
  rcases hc with z | z
  ·rw [z]; exact nit b u e
  ·exact nit c _ z
theorem Inv.tok (I : Inv X pins σ H s) (t : Nat) : Inv X pins σ H { s with toks := t } := I.un (h' := s.heap) (t' := t) Un.refl I.hok
theorem Inv.kept {t' : Nat} (I : Inv X pins σ H s) (k : ∀ b u, s.heap.get? b = some u → h'.get? b = some u) : Inv X pins σ H { s with heap := h', toks := t' } := I.un (Un.kept k) (I.hok.kept k)
theorem Inv.laid {a : Addr} {o : HO} {t' : Nat} (I : Inv X pins σ H s) (k : ∀ b u, s.heap.get? b = some u → h'.get? b = some u) (hp : s.heap.objs.size ≤ a) (new : Qh X.prog X.w (upd H a o) h' a o) :
  Inv X pins σ (upd H a o) { s with heap := h', toks := t' } := I.un (Un.laid k hp (I.hok.fresh hp)) (I.hok.laid k hp new)
theorem Inv.write {x e : Addr} {o : HO} {t' : Nat} (I : Inv X pins σ H s) (mu : Mut (H x)) (he : e = x ∨ H e = some (.own x)) (k : ∀ b u, b ≠ e → s.heap.get? b = some u → h'.get? b = some u) (heo : ∃ u, h'.get? e = some u)
  (new : Qh X.prog X.w (upd H x o) h' x o) : Inv X pins σ (upd H x o) { s with heap := h', toks := t' } := I.un (Un.write mu he k heo) (I.hok.write mu he k heo new)
theorem Inv.Vz {pins' : List (Addr × Obj)} (I : Inv X pins σ H s) (h : ∀ p ∈ pins', s.heap.get? p.1 = some p.2 ∧ H p.1 = none ∧ p.1 ≠ X.env.locals ∧ p.1 ∉ X.fs ∧ ∀ v, p.2.data ≠ .cell v) : Inv X pins' σ H s :=
 ⟨I.ok, I.os, I.bare, I.base, I.loc, I.cell, I.free, I.freeC, fun p hp => (List.mem_append.mp hp).elim (fun z => I.pin p (List.mem_append_left _ z)) (h p), I.hok, I.len⟩
theorem Br {N : List Str} (hN : N.Nodup) {i j : Nat} {x : Str} (a : N[i]? = some x) (b : N[j]? = some x) : i = j := by
 obtain ⟨h1, e1⟩ := List.getElem?_eq_some_iff.mp a
 obtain ⟨h2, e2⟩ := List.getElem?_eq_some_iff.mp b
 exact (List.getElem_inj hN).mp (e1.trans e2.symm)
theorem Hq {M : Model} {A : Around} {E : Value → Shared → Prop} {i : Nat} {x : Str} {v : V} {u : Value} {Q : Unit → Shared → Prop} (I : Inv X pins σ H s) (hN : X.N.Nodup) (hi : X.N[i]? = some x) (hx : Loc X.env.scope x) (r : RelV v u)
  (h : ∀ s', Inv X pins (σ.set i (some v)) H s' → (∃ a, Heap.SameBut a s.heap s'.heap ∧ (a = X.env.locals ∨ X.env.cells.lookup x = some a)) → Q () s') (hf : autoParam (X.fn x = true ∨ X.env.scope.names.lookup x = some .local) zz0._auto_1) : wpAny M A (storeName X.env x u) Q E s := by
 obtain ⟨m, hn, hl⟩ := id I.loc
 have hcls : (X.env.scope.kind == .class || (X.env.scope.kind == .module && X.env.locals != X.env.globals)) = false := by rw [I.ok.kind]; rfl
 have hiσ : i < σ.length := by rw [I.len]; exact (List.getElem?_eq_some_iff.mp hi).1
 have cne := I.cne
 have tracked : ∀ {a : Addr} {h' : Heap}, (∃ o, s.heap.get? a = some o ∧ H a = none) → Heap.SameBut a s.heap h' → HOk X.prog X.w H h' := fun {a h'} ha hs b ob e => by
  obtain ⟨_, _, hfree⟩ := ha
  refine (I.hok b ob e).Of (fun c w' hc q => (hs.2 c ?_).trans q) (fun _ q => q) fun _ _ q => q
  rintro rfl
  rcases hc with rfl | hc
  ·rw [hfree] at e; cases e
  ·rw [hfree] at hc; cases hc
 rcases hx with hk | hk
 ·refine wpAny_storeName_local hk hn (fun h' hn' hs => ?_) hcls
  obtain ⟨oL, _, _, hoL, _⟩ := id hn
  refine h _ ⟨I.ok, I.os, I.bare, ⟨fun b o e n hb hx => ?_, fun b o e n hb hx => ?_, I.base.free, fun b o e hx => ?_, I.base.tups, I.base.frzs, I.base.tbls⟩, ⟨_, hn', fun j y v' e1 e2 e3 => ?_⟩, fun y c e => ?_, I.free, I.freeC, fun p hp => ?_, tracked ⟨oL, hoL, I.free⟩ hs, by simpa using I.len⟩ ⟨_, hs, .inl rfl⟩
  ·exact (hs.2 b (Nat.ne_of_lt (Nat.lt_of_lt_of_le (Heap.lt_size e) I.ok.above))).trans (I.base.keep b o e n hb hx)
  ·obtain ⟨sl, e1⟩ := I.base.slot b o e n hb hx
   exact ⟨sl, (hs.2 b (Nat.ne_of_lt (Nat.lt_of_lt_of_le (Heap.lt_size e) I.ok.above))).trans e1⟩
  ·obtain ⟨o', e1⟩ := I.base.there b o e hx
   exact ⟨o', (hs.2 b (Nat.ne_of_lt (Nat.lt_of_lt_of_le (Heap.lt_size e) I.ok.above))).trans e1⟩
  ·by_cases hj : j = i
   ·subst hj
    rw [hi] at e1; cases e1
    rw [List.getElem?_set_self hiσ] at e2
    cases e2
    exact ⟨u, r, .inl ⟨hk, by simp⟩⟩
   ·rw [List.getElem?_set_ne (Ne.symm hj)] at e2
    obtain ⟨u', r', q⟩ := hl j y v' e1 e2 e3
    refine ⟨u', r', ?_⟩
    rcases q with ⟨k, e⟩ | ⟨k, c, e, z⟩
    ·refine .inl ⟨k, ?_⟩
     have : y ≠ x := fun e => hj (Br hN e1 (e ▸ hi))
     simp [this, e]
    ·exact .inr ⟨k, c, e, z.sameBut hs (cne y c e)⟩
  ·obtain ⟨w', z⟩ := I.cell y c e
   exact ⟨w', z.sameBut hs (cne y c e)⟩
  ·obtain ⟨e, n, ne, nf, d⟩ := I.pin p hp
   exact ⟨(hs.2 p.1 ne).trans e, n, ne, nf, d⟩
 ·have hfn : X.fn x = true := by
   rcases hf with z | z
   ·exact z
   ·rw [z] at hk; cases hk
  obtain ⟨c, hc⟩ := I.ok.has x (.inl hk)
  obtain ⟨w', z⟩ := I.cell x c hc
  refine wpAny_storeName_cell I.ok.kind hk hc z (fun h' hc' hs => ?_)
  obtain ⟨oc, hoc, hocd⟩ := id z
  refine h { s with heap := h' } ⟨I.ok, I.os, I.bare, ⟨fun b o e n hb hx => ?_, fun b o e n hb hx => ?_, I.base.free, fun b o e hx => ?_, I.base.tups, I.base.frzs, I.base.tbls⟩, ⟨m, hn.sameBut hs (Ne.symm (cne x c hc)), fun j y v' e1 e2 e3 => ?_⟩, fun y c' e => ?_, I.free, I.freeC, fun p hp => ?_, tracked ⟨oc, hoc, I.freeC x c hc⟩ hs, by simpa using I.len⟩ ⟨c, hs, .inr hc⟩
  ·exact (hs.2 b (Nat.ne_of_lt (Nat.lt_of_lt_of_le (Heap.lt_size e) (I.ok.cab x c hfn hc)))).trans (I.base.keep b o e n hb hx)
  ·obtain ⟨sl, e1⟩ := I.base.slot b o e n hb hx
   exact ⟨sl, (hs.2 b (Nat.ne_of_lt (Nat.lt_of_lt_of_le (Heap.lt_size e) (I.ok.cab x c hfn hc)))).trans e1⟩
  ·obtain ⟨o', e1⟩ := I.base.there b o e hx
   exact ⟨o', (hs.2 b (Nat.ne_of_lt (Nat.lt_of_lt_of_le (Heap.lt_size e) (I.ok.cab x c hfn hc)))).trans e1⟩
  ·by_cases hj : j = i
   ·subst hj
    rw [hi] at e1; cases e1
    rw [List.getElem?_set_self hiσ] at e2
    cases e2
    exact ⟨u, r, .inr ⟨.inl hk, c, hc, hc'⟩⟩
   ·rw [List.getElem?_set_ne (Ne.symm hj)] at e2
    obtain ⟨u', r', q⟩ := hl j y v' e1 e2 e3
    refine ⟨u', r', ?_⟩
    rcases q with q | ⟨k, c', e, z'⟩
    ·exact .inl q
    ·refine .inr ⟨k, c', e, z'.sameBut hs ?_⟩
     rintro rfl
     exact hj (Br hN e1 (I.ok.inj _ _ _ e hc ▸ hi))
  ·by_cases hcc : c' = c
   ·subst hcc; exact ⟨_, hc'⟩
   ·obtain ⟨w2, z2⟩ := I.cell y c' e
    exact ⟨w2, z2.sameBut hs hcc⟩
  ·obtain ⟨e, n, ne, nf, d⟩ := I.pin p hp
   refine ⟨(hs.2 p.1 ?_).trans e, n, ne, nf, d⟩
   intro q
   rw [q, hoc] at e
   have q' : oc = p.2 := Option.some.inj e
   exact d w' (by rw [← q']; exact hocd)
theorem Bo {M : Model} {A : Around} {E : Value → Shared → Prop} {i : Nat} {x : Str} {v : V} {u : Value} {Q : Unit → Shared → Prop} (I : Inv X pins σ H s) (hN : X.N.Nodup) (hi : X.N[i]? = some x) (hx : Loc X.env.scope x) (r : RelV v u)
  (h : ∀ s', Inv X pins (σ.set i (some v)) H s' → Q () s') (hf : autoParam (X.fn x = true ∨ X.env.scope.names.lookup x = some .local) zz0._auto_1) : wpAny M A (storeName X.env x u) Q E s :=
 Hq I hN hi hx r (fun s' I' _ => h s' I') hf
theorem Inv.Zau {s' : Shared} {ch : List Addr} (I : Inv X pins σ H s) (ho : s'.os = s.os) (u : Un (frs X.stack) ch H H' s.heap s'.heap) (hok : HOk X.prog X.w H' s'.heap) (hg : AllBare s'.gens)
  (hch : ∀ b ∈ ch, (b ∈ X.ex ∨ X.s₀.heap.objs.size ≤ b) ∧ b ≠ X.env.locals ∧ (∀ x c, X.env.cells.lookup x = some c → c ≠ b) ∧ ∀ p ∈ X.pn ++ pins, p.1 ≠ b) : Inv X pins σ H' s' := by
 obtain ⟨h', g', d', t', o'⟩ := s'
 have e : o' = s.os := ho
 subst e
 exact I.call (g' := g') (t' := t') (d' := d') u hok hg hch
end
abbrev XK := Value → Option Addr → Hp → Prop
abbrev St := List (Option V)
abbrev VK := V → Hp → Prop
abbrev TE := St → Hp → VK → Prop
abbrev TT := St → Hp → (Bool → Hp → Prop) → Prop
abbrev TA := St → Hp → (List V → Hp → Prop) → Prop
structure Ends where
 nx : St → Hp → Prop
 rt : VK
 bk : St → Hp → Prop := fun _ _ => False
 ct : St → Hp → Prop := fun _ _ => False
abbrev TS := Ends → St → Hp → Prop
def EP (X : Cx) (pins : List (Addr × Obj)) (σ : St) (Q : VK) (u : Value) (s' : Shared) : Prop := ∃ v H', Inv X pins σ H' s' ∧ RelV v u ∧ Q v H'
def TP (X : Cx) (pins : List (Addr × Obj)) (σ : St) (Q : Bool → Hp → Prop) (b : Bool) (s' : Shared) : Prop := ∃ H', Inv X pins σ H' s' ∧ Q b H'
def AP (X : Cx) (pins : List (Addr × Obj)) (σ : St) (Q : List V → Hp → Prop) (us : List Value) (s' : Shared) : Prop := ∃ vs H', Inv X pins σ H' s' ∧ Vals vs us ∧ Q vs H'
def SP (X : Cx) (pins : List (Addr × Obj)) (D : Ends) (f : Flow) (s' : Shared) : Prop :=
 match f with
 | .next => ∃ σ' H', Inv X pins σ' H' s' ∧ D.nx σ' H'
 | .brk => ∃ σ' H', Inv X pins σ' H' s' ∧ D.bk σ' H'
 | .cont => ∃ σ' H', Inv X pins σ' H' s' ∧ D.ct σ' H'
 | .ret u => ∃ v σ' H', Inv X pins σ' H' s' ∧ RelV v u ∧ D.rt v H'
def PE (X : Cx) (e : Expr) (t : TE) : Prop :=
 ∀ (pins : List (Addr × Obj)) (s : Shared) (σ : St) (H : Hp) (Q : VK), Inv X pins σ H s → t σ H Q → wpAny (model X.prog X.w) X.A (eval e X.env) (EP X pins σ Q) X.xe s
def PT (X : Cx) (e : Expr) (t : TT) : Prop :=
 ∀ (pins : List (Addr × Obj)) (s : Shared) (σ : St) (H : Hp) (Q : Bool → Hp → Prop), Inv X pins σ H s → t σ H Q → wpAny (model X.prog X.w) X.A (isTrue e X.env (eval e X.env)) (TP X pins σ Q) X.xe s
def PW (X : Cx) (e : Expr) (t : TT) : Prop :=
 ∀ (whole : Sem Value) (pins : List (Addr × Obj)) (s : Shared) (σ : St) (H : Hp) (Q : Bool → Hp → Prop), Inv X pins σ H s → t σ H Q → wpAny (model X.prog X.w) X.A (isTrue e X.env whole) (TP X pins σ Q) X.xe s
theorem PW.pt {X : Cx} {e : Expr} {t : TT} (h : PW X e t) : PT X e t := h _
def PA (X : Cx) (es : List Expr) (t : TA) : Prop :=
 ∀ (pos : Pos) (pins : List (Addr × Obj)) (s : Shared) (σ : St) (H : Hp) (Q : List V → Hp → Prop), Inv X pins σ H s → t σ H Q → wpAny (model X.prog X.w) X.A (spliced (backTo pos (starEach es X.env))) (AP X pins σ Q) X.xe s
def PS (X : Cx) (st : Stmt) (t : TS) : Prop :=
 ∀ (pins : List (Addr × Obj)) (s : Shared) (σ : St) (H : Hp) (D : Ends), Inv X pins σ H s → t D σ H → wpAny (model X.prog X.w) X.A (exec st X.env) (SP X pins D) X.xe s
def PSs (X : Cx) (st : List Stmt) (t : TS) : Prop :=
 ∀ (pins : List (Addr × Obj)) (s : Shared) (σ : St) (H : Hp) (D : Ends), Inv X pins σ H s → t D σ H → wpAny (model X.prog X.w) X.A (execs st X.env) (SP X pins D) X.xe s
theorem thn {α : Type} {t : Sem α} {Q Q' : α → Shared → Prop} {M : Model} {A : Around} {E : Value → Shared → Prop} {s : Shared} (h : wpAny M A t Q E s) (hQ : ∀ a s, Q a s → Q' a s) : wpAny M A t Q' E s := wpAny_mono h hQ fun _ _ x => x
end L2
namespace L2
open PySem PySem.Spec PyProof.Rows
section
variable {X : Cx}
def ZgY (i : Nat) : TE := fun σ H Q => ∃ v, σ[i]? = some (some v) ∧ Q v H
def tC (v : V) : TE := fun _ H Q => Q v H
theorem Zcv {i : Nat} {x : Str} {pos : Pos} (hN : X.N[i]? = some x) (hv : Vis X.env.scope x) (hd : autoParam ((x == ("__debug__" : Str)) = false) zz1._auto_1) (hcd : autoParam ((x == ("__classdict__" : Str)) = false) zz1._auto_1) : PE X (.Name x pos) (ZgY i) := by
 intro pins s σ H Q I h
 obtain ⟨v, e, h⟩ := h
 obtain ⟨m, hn, hl⟩ := I.loc
 obtain ⟨u, r, l⟩ := hl i x v hN e hv
 have fin : EP X pins σ Q u s := ⟨v, H, I, r, h⟩
 rcases l with ⟨hk, hm⟩ | ⟨hk, c, hc, hcell⟩
 ·exact wpAny_Name (wpAny_loadName_local I.ok.kind hk hn hm fin) hd
 ·rcases hk with hk | hk
  ·exact wpAny_Name (wpAny_loadName_cell I.ok.kind hk hc hcell fin) hd
  ·exact wpAny_Name (wpAny_loadName_free I.ok.kind hk hc hcell fin hcd) hd
theorem Zbm {i j pos} : PE X (.Constant (.int i) j pos) (tC (.int i)) := fun _ _ _ H _ I h => wpAny_Constant_int ⟨.int i, H, I.tok _, ⟨_, rfl⟩, h⟩
theorem ZeI {b j pos} : PE X (.Constant (.bool b) j pos) (tC (.bl b)) := fun _ _ _ H _ I h => Constant_bool ⟨.bl b, H, I, rfl, h⟩
theorem ZcD {j pos} : PE X (.Constant .none j pos) (tC .non) := fun _ _ _ H _ I h => Constant_none ⟨.non, H, I, rfl, h⟩
theorem Zbq {x j pos} : PE X (.Constant (.str x) j pos) (tC (.str x)) := fun _ _ _ H _ I h => Calls.Constant_str ⟨.str x, H, I.tok _, ⟨_, rfl⟩, h⟩
def Gl (X : Cx) (x : Str) : Prop := X.env.kindOf x = some .globalImplicit
theorem Ta {E : Value → Shared → Prop} {pins : List (Addr × Obj)} {s : Shared} {σ : St} {H : Hp} {x : Str} {u : Value} {pos : Pos} {Q : Value → Shared → Prop} (I : Inv X pins σ H s) (hg : Gl X x) (hm : X.mg x = some u) (h : Q u s)
  (hd : autoParam ((x == ("__debug__" : Str)) = false) zz1._auto_1) : wpAny (model X.prog X.w) X.A (eval (.Name x pos) X.env) Q E s :=
 Calls.Name_function_global I.ok.kind hg (Calls.loadGlobal_global (by rw [I.ok.glob]; exact I.mod.glob.keeps I.bk) hm h) hd
theorem Xk {E : Value → Shared → Prop} {pins : List (Addr × Obj)} {s : Shared} {σ : St} {H : Hp} {x : Str} {u : Value} {pos : Pos} {Q : Value → Shared → Prop} (I : Inv X pins σ H s) (hg : Gl X x) (hm : X.mg x = none) (hv : bootBuiltins x = some u) (h : Q u s)
  (hn : autoParam (x ≠ "__name__") zz1._auto_1) (hd : autoParam ((x == ("__debug__" : Str)) = false) zz1._auto_1) : wpAny (model X.prog X.w) X.A (eval (.Name x pos) X.env) Q E s := by
 obtain ⟨mb, h1, h2⟩ := I.mod.blt
 exact Calls.Name_function_global I.ok.kind hg (Calls.loadGlobal_builtin (by rw [I.ok.glob]; exact I.mod.glob.keeps I.bk) hm (by rw [I.ok.blt]; exact h1.keeps I.bk) ((h2 x hn).trans hv) h) hd
theorem UM {x : Str} {v : V} {u : Value} {pos : Pos} (hg : Gl X x) (hm : X.mg x = none) (hv : bootBuiltins x = some u) (r : RelV v u) (hn : autoParam (x ≠ "__name__") zz1._auto_1) (hd : autoParam ((x == ("__debug__" : Str)) = false) zz1._auto_1) : PE X (.Name x pos) (tC v) :=
 fun _ _ _ H _ I h => Xk I hg hm hv ⟨v, H, I, r, h⟩ hn hd
def t2I (ta tb : TE) (k : Int → Int → Hp → Prop) : St → Hp → Prop := fun σ H => ta σ H fun x H1 => tb σ H1 fun y H2 => ∃ i j, x = .int i ∧ y = .int j ∧ k i j H2
def Zhj (ta tb : TE) : TE := fun σ H Q => t2I ta tb (fun i j H2 => Q (.int (i + j)) H2) σ H
def Zg3 (ta tb : TE) : TE := fun σ H Q => t2I ta tb (fun i j H2 => Q (.int (i - j)) H2) σ H
def Zhh (ta tb : TE) : TE := fun σ H Q => t2I ta tb (fun i j H2 => (-(2 ^ 64) < i ∧ i < 2 ^ 64) ∧ Q (.int (i * j)) H2) σ H
variable {a b : Expr} {ta tb : TE} {pos : Pos}
def PC (X : Cx) (op : CmpOp) (a b : Expr) (t : TE) : Prop :=
 ∀ (pins : List (Addr × Obj)) (s : Shared) (σ : St) (H : Hp) (Q : VK), Inv X pins σ H s → t σ H Q →
  wpAny (model X.prog X.w) X.A (eval a X.env) (fun v s₁ => wpAny (model X.prog X.w) X.A (eval b X.env) (fun u s₂ => wpAny (model X.prog X.w) X.A (compareOp op v u) (EP X pins σ Q) X.xe s₂) X.xe s₁) X.xe s
def TN (p : Int → Int → Bool) (ta tb : TE) : TE := fun σ H Q => t2I ta tb (fun i j H2 => Q (.bl (p i j)) H2) σ H
abbrev tLt : TE → TE → TE := TN fun i j => decide (i < j)
abbrev tLe : TE → TE → TE := TN fun i j => decide (i ≤ j)
abbrev tGt : TE → TE → TE := TN fun i j => decide (j < i)
abbrev tGe : TE → TE → TE := TN fun i j => decide (j ≤ i)
abbrev Zhn : TE → TE → TE := TN fun i j => decide (i = j)
abbrev Zhu : TE → TE → TE := TN fun i j => !decide (i = j)
def Zhf (ta : TE) : TE := fun σ H Q => ta σ H fun x H1 => Q (.bl (decide (x = .non))) H1
def ZgK (ta : TE) : TE := fun σ H Q => ta σ H fun x H1 => Q (.bl (!decide (x = .non))) H1
def tB (t : TE) : TT := fun σ H Q => t σ H fun x H1 => ∃ c, x = .bl c ∧ Q c H1
theorem Zc7 {e : Expr} {t : TE} (h : PE X e t) (he : autoParam (∀ whole, isTrue e X.env whole = (do let v ← whole; standAt e.pos; holding [v] (truthy v))) zz2._auto_1) : PT X e (tB t) := by
 intro pins s σ H Q I hw
 refine isTrue_plain (thn (h pins s σ H _ I hw) fun v s1 ⟨x, H1, I1, r1, q1⟩ => ?_) (he _)
 obtain ⟨d, rfl, q⟩ := q1
 cases r1
 exact wpAny_truthy_bool ⟨H1, I1, q⟩
variable {tA tB' : TT} {rest : List Expr}
def Zgg (t u : TT) : TT := fun σ H Q => t σ H fun c H1 => if c = true then u σ H1 Q else Q false H1
def tOr (t u : TT) : TT := fun σ H Q => t σ H fun c H1 => if c = true then Q true H1 else u σ H1 Q
def ZgH (t : TT) : TT := fun σ H Q => t σ H fun c H1 => Q (!c) H1
theorem R6 (ha : PT X a tA) : PW X (.BoolOp .And [a] pos) tA := by
 intro wh pins s σ H Q I h
 refine isTrue_and (thn (ha pins s σ H Q I h) fun c s1 e => ?_)
 cases c with
 | true => exact isTrue_and_nil e
 | false => exact e
theorem ZbW (ha : PT X a tA) : PW X (.BoolOp .Or [a] pos) tA := by
 intro wh pins s σ H Q I h
 refine isTrue_or (thn (ha pins s σ H Q I h) fun c s1 e => ?_)
 cases c with
 | false => exact isTrue_or_nil e
 | true => exact e
theorem Zb6 (ha : PT X a tA) (hb : PW X (.BoolOp .And (b :: rest) pos) tB') : PW X (.BoolOp .And (a :: b :: rest) pos) (Zgg tA tB') := by
 intro wh pins s σ H Q I h
 refine isTrue_and (thn (ha pins s σ H _ I h) fun c s1 ⟨H1, I1, q1⟩ => ?_)
 cases c with
 | true => exact hb wh pins s1 σ H1 Q I1 q1
 | false => exact ⟨H1, I1, q1⟩
theorem ZdJ (ha : PT X a tA) (hb : PW X (.BoolOp .Or (b :: rest) pos) tB') : PW X (.BoolOp .Or (a :: b :: rest) pos) (tOr tA tB') := by
 intro wh pins s σ H Q I h
 refine isTrue_or (thn (ha pins s σ H _ I h) fun c s1 ⟨H1, I1, q1⟩ => ?_)
 cases c with
 | true => exact ⟨H1, I1, q1⟩
 | false => exact hb wh pins s1 σ H1 Q I1 q1
theorem ZcG (ha : PT X a tA) : PT X (.UnaryOp .Not a pos) (ZgH tA) := by
 intro pins s σ H Q I h
 exact isTrue_not (ha pins s σ H (fun c H1 => Q (!c) H1) I h)
def ZeT (ta tb : TE) : TE := fun σ H Q => ta σ H fun x H1 => ∃ c, x = .bl c ∧ if c = true then tb σ H1 Q else Q (.bl false) H1
def ZgP (ta tb : TE) : TE := fun σ H Q => ta σ H fun x H1 => ∃ c, x = .bl c ∧ if c = true then Q (.bl true) H1 else tb σ H1 Q
def Zd0 (ta : TE) : TE := fun σ H Q => ta σ H fun x H1 => ∃ c, x = .bl c ∧ Q (.bl (!c)) H1
theorem Zc0 {op} {t : TE} (h : PE X a t) : PE X (.BoolOp op [a] pos) t := fun pins s σ H Q I hw => BoolOp_one (h pins s σ H Q I hw)
theorem Zc8 (ha : PE X a ta) (hb : PE X (.BoolOp .And (b :: rest) pos) tb) : PE X (.BoolOp .And (a :: b :: rest) pos) (ZeT ta tb) := by
 intro pins s σ H Q I h
 refine BoolOp_and (thn (ha pins s σ H _ I h) fun v s1 ⟨x, H1, I1, r1, q1⟩ => ?_)
 obtain ⟨c, rfl, q1⟩ := q1
 cases r1
 refine wpAny_truthy_bool ?_
 cases c with
 | true => exact hb pins s1 σ H1 Q I1 q1
 | false => exact ⟨.bl false, H1, I1, rfl, q1⟩
theorem Zdy (ha : PE X a ta) (hb : PE X (.BoolOp .Or (b :: rest) pos) tb) : PE X (.BoolOp .Or (a :: b :: rest) pos) (ZgP ta tb) := by
 intro pins s σ H Q I h
 refine BoolOp_or (thn (ha pins s σ H _ I h) fun v s1 ⟨x, H1, I1, r1, q1⟩ => ?_)
 obtain ⟨c, rfl, q1⟩ := q1
 cases r1
 refine wpAny_truthy_bool ?_
 cases c with
 | false => exact hb pins s1 σ H1 Q I1 q1
 | true => exact ⟨.bl true, H1, I1, rfl, q1⟩
theorem ZaX (ha : PE X a ta) : PE X (.UnaryOp .Not a pos) (Zd0 ta) := by
 intro pins s σ H Q I h
 refine UnaryOp_ (thn (ha pins s σ H _ I h) fun v s1 ⟨x, H1, I1, r1, q1⟩ => ?_)
 obtain ⟨c, rfl, q1⟩ := q1
 cases r1
 exact not_of (wpAny_truthy_bool ⟨.bl (!c), H1, I1, rfl, q1⟩)
def tIf (t : TT) (ta tb : TE) : TE := fun σ H Q => t σ H fun c H1 => if c = true then ta σ H1 Q else tb σ H1 Q
end
end L2
namespace L2
open PySem PySem.Spec PyProof.Rows
def SqL (K : PySem.W.Frag) (H : Hp) (a : Addr) (xs : List V) : Prop :=
 Rd H a (.lst xs) ∨
  ∃ (o : Obj) (its : Array Value) (n : Nat), K.lookup a = some o ∧ o.cls = .type "list" ∧ o.dict = none ∧ o.data = .seq its n ∧ its.size ≤ sizeLine ∧ Vals xs its.toList
def SqT (K : PySem.W.Frag) (H : Hp) (a : Addr) (xs : List V) : Prop :=
 Rd H a (.tup xs) ∨
  ∃ (o : Obj) (its : Array Value) (n : Nat), K.lookup a = some o ∧ o.cls = .type "tuple" ∧ o.data = .seq its n ∧ its.size ≤ sizeLine ∧ Vals xs its.toList
noncomputable def ZgS : Value → Option V
 | .none => some .non
 | .bool b => some (.bl b)
 | .int i _ => some (.int i)
 | .str x _ => some (.str x)
 | .bytes b _ => some (.byt b)
 | .float b _ => some (.flt b)
 | .ref a => some (.ref a)
 | .type n => some (.ty n)
 | _ => none
theorem RelV.abs {x : V} {u : Value} (r : RelV x u) : ZgS u = some x := by
 cases x with
 | non => cases r; rfl
 | bl _ => cases r; rfl
 | int _ => obtain ⟨t, rfl⟩ := r; rfl
 | str _ => obtain ⟨t, rfl⟩ := r; rfl
 | byt _ => obtain ⟨t, rfl⟩ := r; rfl
 | flt _ => obtain ⟨t, rfl⟩ := r; rfl
 | ref _ => cases r; rfl
 | ty _ => cases r; rfl
theorem RelV.inj {x y : V} {u : Value} (r : RelV x u) (q : RelV y u) : x = y := Option.some.inj (r.abs.symm.trans q.abs)
theorem Vals.inj : ∀ {xs ys : List V} {us : List Value}, Vals xs us → Vals ys us → xs = ys
 | _, _, _, .nil, .nil => rfl
 | _, _, _, .cons r t, .cons r' t' => by rw [r.inj r', Vals.inj t t']
section
variable {X : Cx} {pins : List (Addr × Obj)} {σ : St} {H : Hp} {s : Shared} {a : Addr} {xs ys : List V}
theorem SqL.of {K : PySem.W.Frag} (h : H a = some (.lst xs)) : SqL K H a xs := .inl (.inl h)
theorem SqT.of {K : PySem.W.Frag} (h : H a = some (.tup xs)) : SqT K H a xs := .inl (.inl h)
theorem Inv.list (I : Inv X pins σ H s) (h : SqL X.K H a xs) : ∃ its : List Value, Vals xs its ∧ PlainL s.heap a its.toArray ∧ xs.length ≤ sizeLine := by
 rcases h with h | ⟨o, its, n, hk, hc, hd, hs, hz, r⟩
 ·obtain ⟨z, its, n, r, e⟩ := h.ok I.hok
  exact ⟨its, r, ⟨_, n, e, rfl, rfl, rfl⟩, z⟩
 ·refine ⟨its.toList, r, ⟨o, n, I.kIn a o hk, hc, hd, by simpa using hs⟩, ?_⟩
  have e := r.length
  simp only [Array.length_toList] at e
  omega
theorem Inv.tuple (I : Inv X pins σ H s) (h : SqT X.K H a xs) : ∃ its : List Value, Vals xs its ∧ IsTup s.heap a its.toArray ∧ xs.length ≤ sizeLine := by
 rcases h with h | ⟨o, its, n, hk, hc, hs, hz, r⟩
 ·obtain ⟨z, its, r, p⟩ := h.ok I.hok
  exact ⟨its, r, p, z⟩
 ·refine ⟨its.toList, r, ⟨o, I.kIn a o hk, hc, n, by simpa using hs⟩, ?_⟩
  have e := r.length
  simp only [Array.length_toList] at e
  omega
theorem Inv.XB (I : Inv X pins σ H s) (h : SqL X.K H a xs) (h' : SqL X.K H a ys) : xs = ys := by
 obtain ⟨its, r, ⟨o, n, e, _, _, d⟩, _⟩ := I.list h
 obtain ⟨its', r', ⟨o', n', e', _, _, d'⟩, _⟩ := I.list h'
 rw [e] at e'; cases e'
 rw [d] at d'
 injection d' with d1 _
 have : its = its' := by simpa using congrArg Array.toList d1
 subst this
 exact r.inj r'
theorem Inv.El (I : Inv X pins σ H s) (h : SqT X.K H a xs) (h' : SqT X.K H a ys) : xs = ys := by
 obtain ⟨its, r, ⟨o, e, _, n, d⟩, _⟩ := I.tuple h
 obtain ⟨its', r', ⟨o', e', _, n', d'⟩, _⟩ := I.tuple h'
 rw [e] at e'; cases e'
 rw [d] at d'
 injection d' with d1 _
 have : its = its' := by simpa using congrArg Array.toList d1
 subst this
 exact r.inj r'
end
noncomputable abbrev Cx.HU (X : Cx) (E : Value → Shared → Prop) : Cx := { X with xe := E }
noncomputable abbrev Cx.nox (X : Cx) : Cx := X.HU fun _ _ => False
theorem Cx.Ok.HU {X : Cx} (ok : X.Ok) (E : Value → Shared → Prop) : (X.HU E).Ok :=
 ⟨ok.mod, ok.kind, ok.glob, ok.blt, ok.above, ok.inj, ok.has, ok.cab, ok.hd, ok.frames, ok.stk, ok.exf, ok.bs, ok.bsz, ok.noex, ok.exfs, ok.Hc, ok.frf⟩
theorem Cx.Ok.VJ {X : Cx} {E : Value → Shared → Prop} (ok : (X.HU E).Ok) : X.Ok :=
 ⟨ok.mod, ok.kind, ok.glob, ok.blt, ok.above, ok.inj, ok.has, ok.cab, ok.hd, ok.frames, ok.stk, ok.exf, ok.bs, ok.bsz, ok.noex, ok.exfs, ok.Hc, ok.frf⟩
section
variable {X : Cx} {pins : List (Addr × Obj)} {σ : St} {H : Hp} {s : Shared} {E : Value → Shared → Prop}
theorem Inv.HU (I : Inv X pins σ H s) (E : Value → Shared → Prop) : Inv (X.HU E) pins σ H s := ⟨I.ok.HU E, I.os, I.bare, I.base, I.loc, I.cell, I.free, I.freeC, I.pin, I.hok, I.len⟩
theorem Inv.VJ (I : Inv (X.HU E) pins σ H s) : Inv X pins σ H s := ⟨I.ok.VJ, I.os, I.bare, I.base, I.loc, I.cell, I.free, I.freeC, I.pin, I.hok, I.len⟩
theorem SP.VJ {D : Ends} {f : Flow} {s' : Shared} (h : SP (X.HU E) pins D f s') : SP X pins D f s' := by
 cases f with
 | next => obtain ⟨σ', H', I, q⟩ := h; exact ⟨σ', H', I.VJ, q⟩
 | brk => obtain ⟨σ', H', I, q⟩ := h; exact ⟨σ', H', I.VJ, q⟩
 | cont => obtain ⟨σ', H', I, q⟩ := h; exact ⟨σ', H', I.VJ, q⟩
 | ret u => obtain ⟨v, σ', H', I, r, q⟩ := h; exact ⟨v, σ', H', I.VJ, r, q⟩
theorem PSs.nox {st : List Stmt} {t : TS} (h : PSs X.nox st t) : PSs X st t := fun pins s σ H D I hw =>
 wpAny_mono (h pins s σ H D (I.HU _) hw) (fun _ _ q => q.VJ) fun _ _ z => False.elim z
end
section
variable {X : Cx} {st : Stmt} {rest : List Stmt} {t u : TS} {e : Expr} {te : TE} {pos : Pos}
def Zen : TS := fun D σ H => D.nx σ H
def Zf1 (t u : TS) : TS := fun D σ H => t { D with nx := u D } σ H
theorem Rx : PSs X [] Zen := fun _ _ σ H _ I h => wpAny_execs_nil ⟨σ, H, I, h⟩
theorem LJ (h1 : PS X st t) (h2 : PSs X rest u) : PSs X (st :: rest) (Zf1 t u) := by
 intro pins s σ H D I h
 refine wpAny_execs_cons (thn (h1 pins s σ H { D with nx := u D } I h) fun f s1 q => ?_)
 cases f with
 | next =>
  obtain ⟨σ', H', I', q⟩ := q
  exact h2 pins s1 σ' H' D I' q
 | ret v => exact q
 | brk => exact q
 | cont => exact q
theorem RJ (h1 : PS X st t) : PSs X [st] t := by
 intro pins s σ H D I h
 refine wpAny_execs_cons (thn (h1 pins s σ H D I h) fun f s1 q => ?_)
 cases f with
 | next => exact wpAny_execs_nil q
 | ret v => exact q
 | brk => exact q
 | cont => exact q
def Ze0 : TS := fun D σ H => D.bk σ H
def Zf6 : TS := fun D σ H => D.ct σ H
theorem Inv.quiet {pins : List (Addr × Obj)} {σ : St} {H : Hp} {s : Shared} (I : Inv X pins σ H s) : interactive X.env = false := by simp [interactive, I.ok.kind]
def Zd2 (te : TE) : TS := fun D σ H => te σ H fun _ H1 => D.nx σ H1
theorem P7 (he : PE X e te) (hs : autoParam (swapsWith e none pos.line X.env = pure false) zz3._auto_1) : PS X (.Expr e pos) (Zd2 te) := by
 intro pins s σ H D I h
 exact wpAny_Expr_any (thn (he pins s σ H _ I h) fun v s1 ⟨x, H1, I1, r1, q1⟩ => ⟨σ, H1, I1, q1⟩) I.quiet hs
def Zg1 (te : TE) : TS := fun D σ H => te σ H D.rt
theorem ZbY (he : PE X e te) : PS X (.Return (some e) pos) (Zg1 te) := by
 intro pins s σ H D I h
 exact wpAny_Return_some (thn (he pins s σ H _ I h) fun v s1 ⟨x, H1, I1, r1, q1⟩ => ⟨x, σ, H1, I1, r1, q1⟩)
def Zf5 : TS := fun D _ H => D.rt .non H
def Zg0 (c : TT) (t u : TS) : TS := fun D σ H => c σ H fun b H1 => if b = true then t D σ H1 else u D σ H1
theorem ZeP {c : Expr} {a b : List Stmt} {tc : TT} (hc : PT X c tc) (ha : PSs X a t) (hb : PSs X b u) : PS X (.If c a b pos) (Zg0 tc t u) := by
 intro pins s σ H D I h
 refine wpAny_If (thn (hc pins s σ H _ I h) fun d s1 ⟨H1, I1, q1⟩ => ?_)
 cases d with
 | true => exact ha pins s1 σ H1 D I1 q1
 | false => exact hb pins s1 σ H1 D I1 q1
def Zfp : TS := fun _ _ _ => False
end
abbrev TG := V → St → Hp → (St → Hp → Prop) → Prop
abbrev TGs := List V → St → Hp → (St → Hp → Prop) → Prop
def PG (X : Cx) (target : Expr) (t : TG) : Prop :=
 ∀ (pins : List (Addr × Obj)) (s : Shared) (σ : St) (H : Hp) (v : V) (u : Value) (Q : St → Hp → Prop), Inv X pins σ H s → RelV v u → t v σ H Q →
  wpAny (model X.prog X.w) X.A (assign target X.env u) (fun _ s' => ∃ σ' H', Inv X pins σ' H' s' ∧ Q σ' H') X.xe s
def PGs (X : Cx) (ts : List Expr) (t : TGs) : Prop :=
 ∀ (pins : List (Addr × Obj)) (s : Shared) (σ : St) (H : Hp) (vs : List V) (us : List Value) (Q : St → Hp → Prop), Inv X pins σ H s → Vals vs us → t vs σ H Q →
  wpAny (model X.prog X.w) X.A (assignInOrder ((assignEach ts X.env).map (·.2)) us) (fun _ s' => ∃ σ' H', Inv X pins σ' H' s' ∧ Q σ' H') X.xe s
abbrev Zdg := V → V → V → Hp → (Hp → Prop) → Prop
def Ze4 (X : Cx) (t : Zdg) : Prop :=
 ∀ (pins : List (Addr × Obj)) (s : Shared) (σ : St) (H : Hp) (o i v : V) (ov iv u : Value) (Q : Hp → Prop), Inv X pins σ H s → RelV o ov → RelV i iv → RelV v u → t o i v H Q →
  wpAny (model X.prog X.w) X.A (setItem ov iv u) (fun _ s' => ∃ H', Inv X pins σ H' s' ∧ Q H') X.xe s
abbrev TIp := V → V → Hp → VK → Prop
def PIp (X : Cx) (op : Operator) (t : TIp) : Prop :=
 ∀ (pins : List (Addr × Obj)) (s : Shared) (σ : St) (H : Hp) (x y : V) (v u : Value) (Q : VK), Inv X pins σ H s → RelV x v → RelV y u → t x y H Q →
  wpAny (model X.prog X.w) X.A (inplaceOp op v u) (EP X pins σ Q) X.xe s
section
variable {X : Cx} {pos : Pos}
def Zdb (i : Nat) : TG := fun v σ H Q => Q (σ.set i (some v)) H
theorem D8 {i : Nat} {x : Str} (hN : X.N.Nodup) (hi : X.N[i]? = some x) (hx : Loc X.env.scope x) (hf : autoParam (X.fn x = true ∨ X.env.scope.names.lookup x = some .local) zz0._auto_1) : PG X (.Name x pos) (Zdb i) := by
 intro pins s σ H v u Q I r h
 exact wpAny_assign_Name (Bo I hN hi hx r (fun s' I' => ⟨_, H, I', h⟩) hf)
def Zgo : TGs := fun vs σ H Q => vs = [] ∧ Q σ H
def Zdz (t : TG) (u : TGs) : TGs := fun vs σ H Q => ∃ v r, vs = v :: r ∧ t v σ H fun σ' H' => u r σ' H' Q
theorem Th : PGs X [] Zgo := by
 intro pins s σ H vs us Q I r h
 obtain ⟨e, h⟩ := h
 subst e
 cases r
 exact assignInOrder_nil ⟨σ, H, I, h⟩
theorem MV {e : Expr} {es : List Expr} {t : TG} {u : TGs} (h1 : PG X e t) (h2 : PGs X es u)
  (hs : autoParam ((assignEach (e :: es) X.env).map (·.2) = assign e X.env :: (assignEach es X.env).map (·.2)) zz3._auto_1) : PGs X (e :: es) (Zdz t u) := by
 intro pins s σ H vs us Q I r h
 obtain ⟨v, vr, e1, h⟩ := h
 subst e1
 cases r with
 | cons r rr =>
  rw [hs]
  refine assignInOrder_cons (thn (h1 pins s σ H _ _ _ I r h) fun _ s1 ⟨σ1, H1, I1, q1⟩ => ?_)
  exact h2 pins s1 σ1 H1 _ _ Q I1 rr q1
def ZgE (K : PySem.W.Frag) (n : Nat) (t : TGs) : TG := fun v σ H Q => ∃ a xs, v = .ref a ∧ SqT K H a xs ∧ xs.length = n ∧ t xs σ H Q
theorem ZbM {es : List Expr} {k : Nat} {t : TGs} {n : Nat} (hc : X.calm = true) (h : PGs X es t)
  (hn : autoParam ((assignEach es X.env).length = n) zz3._auto_1) (hst : autoParam ((assignEach es X.env).findIdx? (·.1) = none) zz3._auto_1) : PG X (.Tuple es k pos) (ZgE X.K n t) := by
 intro pins s σ H v u Q I r hw
 obtain ⟨a, xs, e1, hq, hl, hw⟩ := hw
 subst e1
 cases r
 obtain ⟨its, rv, ht, hz⟩ := I.tuple hq
 refine assign_Tuple_tuple (I.ok.hd hc) ht (by simp [hn, ← hl, rv.length]) hst fun h' hx => ?_
 have I1 : Inv X pins σ H { s with heap := h' } := I.kept (t' := s.toks) fun b o e => hx b o (Nat.ne_of_lt (Heap.lt_size e)) e
 exact h pins _ σ H xs _ Q I1 (by simpa using rv) hw
def ZgZ (to ti : TE) (t : Zdg) : TG := fun v σ H Q => to σ H fun o H1 => ti σ H1 fun i H2 => t o i v H2 fun H3 => Q σ H3
theorem ZbB {o i : Expr} {to ti : TE} {t : Zdg} (ho : PE X o to) (hi : PE X i ti) (hs : Ze4 X t)
  (ha : ∀ v, assign (.Subscript o i pos) X.env v = (do
   let ov ← holding [v] (eval o X.env)
   let iv ← holding [v, ov] (eval i X.env)
   standAt pos
   holding [v, ov, iv] (setItem ov iv v)
   release [v, ov, iv] []) := by intro _; rfl) : PG X (.Subscript o i pos) (ZgZ to ti t) := by
 intro pins s σ H v u Q I r h
 rw [ha]
 refine wpAny_bind (wpAny_holding (thn (ho pins s σ H _ I h) fun ov s1 ⟨x, H1, I1, r1, q1⟩ => ?_))
 refine wpAny_bind (wpAny_holding (thn (hi pins s1 σ H1 _ I1 q1) fun iv s2 ⟨y, H2, I2, r2, q2⟩ => ?_))
 refine wpAny_bind (wpAny_standAt (wpAny_bind (wpAny_holding (thn (hs pins s2 σ H2 x y v ov iv u _ I2 r1 r2 r q2) fun _ s3 ⟨H3, I3, q3⟩ => ?_))))
 exact wpAny_release ⟨σ, H3, I3, q3⟩
def ZeX (te : TE) (g : TG) : TS := fun D σ H => te σ H fun x H1 => g x σ H1 D.nx
theorem Zbh {tg e : Expr} {te : TE} {g : TG} (he : PE X e te) (hg : PG X tg g) (hs : autoParam (swapsWithSole [tg] e pos.line X.env = pure false) zz3._auto_1) (hw : autoParam (swappedStores [tg] e X.env = pure none) zz3._auto_1)
  (h1 : autoParam ((assignEach [tg] X.env).map (·.2) = [assign tg X.env]) zz3._auto_1) : PS X (.Assign [tg] e pos) (ZeX te g) := by
 intro pins s σ H D I h
 refine wpAny_Assign_stores (thn (he pins s σ H _ I h) fun v s1 ⟨x, H1, I1, r1, q1⟩ => ?_) hs hw
 rw [h1]
 exact thn (hg pins s1 σ H1 x v _ I1 r1 q1) fun _ s2 q => q
theorem ZaK {i : Nat} {x : Str} {e : Expr} {te : TE} {pos' : Pos} (hN : X.N.Nodup) (hi : X.N[i]? = some x) (hx : Loc X.env.scope x) (he : PE X e te) (hs : autoParam (swapsWith e (some (.Name x pos')) pos.line X.env = pure false) zz3._auto_1) (hf : autoParam (X.fn x = true ∨ X.env.scope.names.lookup x = some .local) zz0._auto_1) :
  PS X (.Assign [.Name x pos'] e pos) (ZeX te (Zdb i)) := by
 intro pins s σ H D I h
 refine wpAny_Assign_Name (thn (he pins s σ H _ I h) fun v s1 ⟨y, H1, I1, r1, q1⟩ => ?_) hs
 exact Bo I1 hN hi hx r1 (fun s2 I2 => ⟨_, H1, I2, q1⟩) hf
def Zhc (i j : Nat) (ta : TA) : TS := fun D σ H => ta σ H fun vs H1 => ∃ v w, vs = [v, w] ∧ D.nx ((σ.set i (some v)).set j (some w)) H1
def Zg6 (i : Nat) (te : TE) (ti : TIp) : TS := fun D σ H => ∃ x, σ[i]? = some (some x) ∧ te σ H fun y H1 => ti x y H1 fun z H2 => D.nx (σ.set i (some z)) H2
def Zgj (to ti te : TE) (tget : V → V → Hp → VK → Prop) (tip : TIp) (tset : Zdg) : TS := fun D σ H => to σ H fun o H1 => ti σ H1 fun i H2 => tget o i H2 fun x H3 => te σ H3 fun y H4 => tip x y H4 fun z H5 => tset o i z H5 fun H6 => D.nx σ H6
def ZhA (X : Cx) (t : V → V → Hp → VK → Prop) : Prop :=
 ∀ (pins : List (Addr × Obj)) (s : Shared) (σ : St) (H : Hp) (o i : V) (ov iv : Value) (Q : VK), Inv X pins σ H s → RelV o ov → RelV i iv → t o i H Q →
  wpAny (model X.prog X.w) X.A (getItem ov iv) (EP X pins σ Q) X.xe s
def ipI (f : Int → Int → Int) : TIp := fun x y H Q => ∃ i j, x = .int i ∧ y = .int j ∧ Q (.int (f i j)) H
end
section
variable {X : Cx} {pos : Pos}
def ZfR (c : TT) (tb : TS) : TS := fun D σ H => ∃ W : Nat → St → Hp → Prop, (∃ m, W m σ H) ∧ ∀ m σ H, W m σ H →
 c σ H fun b H1 => if b = true then ∃ N : St → Hp → Prop, (∀ σ' H', N σ' H' → ∃ m', m' < m ∧ W m' σ' H') ∧ tb { D with nx := N, ct := N, bk := D.nx } σ H1 else D.nx σ H1
end
structure It where
 go : Nat → Hp → Prop
 yld : Nat → Hp → V → Hp → Prop
 stop : Nat → Hp → Prop
def Us (X : Cx) (pins : List (Addr × Obj)) (H : Hp) (b : Addr) : Prop :=
 H b = none ∧ b ≠ X.env.locals ∧ b ∉ X.fs ∧ (b ∈ X.ex ∨ X.s₀.heap.objs.size ≤ b) ∧ (∀ x c, X.env.cells.lookup x = some c → c ≠ b) ∧ ∀ p ∈ X.pn ++ pins, p.1 ≠ b
theorem Inv.To {X : Cx} {pins : List (Addr × Obj)} {σ : St} {H H' : Hp} {s : Shared} {b : Addr} (I : Inv X pins σ H s) (hb : s.heap.objs.size ≤ b) (hn : H' b = none) : Us X pins H' b := by
 refine ⟨hn, Nat.ne_of_gt (Nat.lt_of_lt_of_le I.lt hb), I.ZgM hb, .inr (Nat.le_trans I.sz hb), fun x c e z => ?_, fun p hp z => ?_⟩
 ·obtain ⟨v, q⟩ := I.cell x c e
  exact absurd (Nat.lt_of_lt_of_le q.lt (by rw [z]; exact hb)) (Nat.lt_irrefl _)
 ·exact absurd (Nat.lt_of_lt_of_le (Heap.lt_size (I.pin p hp).1) (by rw [z]; exact hb)) (Nat.lt_irrefl _)
structure Turn (P : Program) (w : World) (K : PySem.W.Frag) (tg : Expr) (J : It) (fp : List Addr) (it : Addr) (tn : Nat → Heap → Prop) : Prop where
 mem : it ∈ fp
 obj : ∀ i h, tn i h → ∀ b ∈ fp, ∃ o, h.get? b = some o ∧ ∀ v, o.data ≠ .cell v
 keep : ∀ i h h', tn i h → (∀ b ∈ fp, ∀ o, h.get? b = some o → h'.get? b = some o) → tn i h'
 item : ∀ (X : Cx), X.prog = P → X.w = w → X.K = K → X.calm = true → ∀ (i : Nat) (pins : List (Addr × Obj)) (s : Shared) (σ : St) (H : Hp) (E : Value → Shared → Prop), Inv X pins σ H s → (∀ b ∈ fp, Us X pins H b) → tn i s.heap → J.go i H →
  wpAny (model P w) X.A (pyNext (.ref it)) (fun r s1 => ∃ u, r = some u ∧
   wpAny (model P w) X.A (letOwnedTupleGo tg (.ref it) u) (fun _ s2 => ∃ x H', Inv X pins σ H' s2 ∧ RelV x u ∧ J.yld i H x H' ∧ tn (i + 1) s2.heap ∧ ∀ b ∈ fp, H' b = none) E s1) E s
 done : ∀ (X : Cx), X.prog = P → X.w = w → X.K = K → X.calm = true → ∀ (i : Nat) (pins : List (Addr × Obj)) (s : Shared) (σ : St) (H : Hp) (E : Value → Shared → Prop), Inv X pins σ H s → (∀ b ∈ fp, Us X pins H b) → tn i s.heap → J.stop i H →
  wpAny (model P w) X.A (pyNext (.ref it)) (fun r s1 => r = none ∧ Inv X pins σ H s1) E s
 self : ∀ (A : Around) (i : Nat) (s : Shared) (Q : Value → Shared → Prop) (E : Value → Shared → Prop), tn i s.heap → Q (.ref it) s → wpAny (model P w) A (pyIter (.ref it)) Q E s
abbrev TI := St → Hp → (It → Hp → Prop) → Prop
def PIE (X : Cx) (pins : List (Addr × Obj)) (σ : St) (tg : Expr) (R : It → Hp → Prop) (itv : Value) (s2 : Shared) : Prop :=
 ∃ (it : Addr) (fp : List Addr) (tn : Nat → Heap → Prop) (J : It) (H' : Hp), itv = .ref it ∧ Inv X pins σ H' s2 ∧ Turn X.prog X.w X.K tg J fp it tn ∧ tn 0 s2.heap ∧ (∀ b ∈ fp, Us X pins H' b) ∧ R J H'
def PI (X : Cx) (tg iter : Expr) (wi : TI) : Prop :=
 ∀ (pins : List (Addr × Obj)) (s : Shared) (σ : St) (H : Hp) (R : It → Hp → Prop), Inv X pins σ H s → wi σ H R →
  wpAny (model X.prog X.w) X.A (eval iter X.env) (fun v s1 => wpAny (model X.prog X.w) X.A (pyIter v) (PIE X pins σ tg R) X.xe s1) X.xe s
theorem LP {M : Model} {A : Around} {E : Value → Shared → Prop} {s : Shared} {tg : Expr} {it : Addr} {u : Value} {o : Obj} {n : String} {vs : Array Value} {Q : Unit → Shared → Prop} (ho : s.heap.get? it = some o) (hc : o.cls = .type n) (hd : o.data = .fields vs)
    (hn : ["enumerate", "zip", "dict_itemiterator", "dict_reverseitemiterator", "odict_iterator", "itertools.zip_longest", "itertools.pairwise"].contains n = false) (hQ : Q () s) : wpAny M A (letOwnedTupleGo tg (.ref it) u) Q E s := by
  unfold letOwnedTupleGo
  cases tg <;> first
    | exact wpAny_pure hQ
    | (cases u <;> first
        | exact wpAny_pure hQ
        | (refine wpAny_bind (wpAny_load ho ?_)
           rw [hc, hd]
           show wpAny M A (if (["enumerate", "zip", "dict_itemiterator", "dict_reverseitemiterator", "odict_iterator", "itertools.zip_longest", "itertools.pairwise"].contains n && vs[0]? == some (rawInt _)) = true then _ else _) Q E s
           rw [if_neg (by intro h; rw [hn, Bool.false_and] at h; cases h)]
           exact wpAny_pure hQ))
noncomputable def Itl (K : PySem.W.Frag) (a : Addr) : It :=
 ⟨fun i H => ∃ xs x, SqL K H a xs ∧ xs[i]? = some x, fun i H x H' => H' = H ∧ ∀ xs, SqL K H a xs → xs[i]? = some x, fun i H => ∃ xs, SqL K H a xs ∧ xs.length ≤ i⟩
noncomputable def Itt (K : PySem.W.Frag) (a : Addr) : It :=
 ⟨fun i H => ∃ xs x, SqT K H a xs ∧ xs[i]? = some x, fun i H x H' => H' = H ∧ ∀ xs, SqT K H a xs → xs[i]? = some x, fun i H => ∃ xs, SqT K H a xs ∧ xs.length ≤ i⟩
noncomputable def Itr (lo : Int) (n : Nat) : It := ⟨fun i _ => i < n, fun i H x H' => H' = H ∧ x = .int (lo + i), fun i _ => n ≤ i⟩
theorem DP {P : Program} {w : World} {K : PySem.W.Frag} {tg : Expr} (a it : Addr) : Turn P w K tg (Itl K a) [it] it (fun i h => h.IsListIter it a i) where
 mem := by simp
 obj := fun i h st b hb => by
  have e : b = it := by simpa using hb
  subst e
  obtain ⟨o, e, c, d⟩ := st
  exact ⟨o, e, fun v z => by rw [d] at z; cases z⟩
 keep := fun i h h' st k => st.at fun o e => k it (by simp) o e
 item := by
  intro X hP hw hK hc i pins s σ H E I hf st hg
  subst hP hw hK
  obtain ⟨xs, x, hq, hx⟩ := hg
  obtain ⟨its, rv, p, hz⟩ := I.list hq
  obtain ⟨u, hu, ru⟩ := rv.get hx
  obtain ⟨f0, f1, f2, f3, f4, f5⟩ := hf it (by simp)
  refine wpAny_pyNext_list_item st p.isList (x := u) (by simpa using hu) fun h' st' sb => ?_
  have I1 : Inv X pins σ H { s with heap := h' } := I.turned (t' := s.toks) (fun b o hb e => (sb.2 b hb).trans e) f0 f1 f3 f4 f5
  obtain ⟨o, e, c, d⟩ := id st'
  exact ⟨u, rfl, LP (s := { s with heap := h' }) e c d (by decide) ⟨x, H, I1, ru, ⟨rfl, fun ys hy => by rw [I.XB hy hq]; exact hx⟩, st', fun b hb => (hf b hb).1⟩⟩
 done := by
  intro X hP hw hK hc i pins s σ H E I hf st hg
  subst hP hw hK
  obtain ⟨xs, hq, hx⟩ := hg
  obtain ⟨its, rv, p, hz⟩ := I.list hq
  obtain ⟨f0, f1, f2, f3, f4, f5⟩ := hf it (by simp)
  have hl := rv.length
  exact wpAny_pyNext_list_end (I.ok.hd hc) st p.isList (by simp; omega) fun h' eb => ⟨rfl, I.turned (t' := s.toks) (fun b o hb e => eb b o hb e) f0 f1 f3 f4 f5⟩
 self := fun _ _ _ _ _ st h => wpAny_pyIter_listiter st h
theorem B1 {P : Program} {w : World} {K : PySem.W.Frag} {tg : Expr} (a it : Addr) : Turn P w K tg (Itt K a) [it] it (fun i h => h.IsTupleIter it a i) where
 mem := by simp
 obj := fun i h st b hb => by
  have e : b = it := by simpa using hb
  subst e
  obtain ⟨o, e, c, d⟩ := st
  exact ⟨o, e, fun v z => by rw [d] at z; cases z⟩
 keep := fun i h h' st k => st.at fun o e => k it (by simp) o e
 item := by
  intro X hP hw hK hc i pins s σ H E I hf st hg
  subst hP hw hK
  obtain ⟨xs, x, hq, hx⟩ := hg
  obtain ⟨its, rv, p, hz⟩ := I.tuple hq
  obtain ⟨u, hu, ru⟩ := rv.get hx
  obtain ⟨f0, f1, f2, f3, f4, f5⟩ := hf it (by simp)
  refine wpAny_pyNext_tuple_item st (show s.heap.IsTuple a its.toArray from p) (x := u) (by simpa using hu) fun h' st' sb => ?_
  have I1 : Inv X pins σ H { s with heap := h' } := I.turned (t' := s.toks) (fun b o hb e => (sb.2 b hb).trans e) f0 f1 f3 f4 f5
  obtain ⟨o, e, c, d⟩ := id st'
  exact ⟨u, rfl, LP (s := { s with heap := h' }) e c d (by decide) ⟨x, H, I1, ru, ⟨rfl, fun ys hy => by rw [I.El hy hq]; exact hx⟩, st', fun b hb => (hf b hb).1⟩⟩
 done := by
  intro X hP hw hK hc i pins s σ H E I hf st hg
  subst hP hw hK
  obtain ⟨xs, hq, hx⟩ := hg
  obtain ⟨its, rv, p, hz⟩ := I.tuple hq
  obtain ⟨f0, f1, f2, f3, f4, f5⟩ := hf it (by simp)
  have hl := rv.length
  exact wpAny_pyNext_tuple_end (I.ok.hd hc) st (show s.heap.IsTuple a its.toArray from p) (by simp; omega) fun h' eb => ⟨rfl, I.turned (t' := s.toks) (fun b o hb e => eb b o hb e) f0 f1 f3 f4 f5⟩
 self := fun _ _ _ _ _ st h => wpAny_pyIter_tupleiter st h
theorem B2 {P : Program} {w : World} {K : PySem.W.Frag} {tg : Expr} (it : Addr) (lo : Int) (n : Nat) : Turn P w K tg (Itr lo n) [it] it (fun i h => IsRangeIter h it (lo + (i : Nat) * 1) ((n : Int) - (i : Nat)) 1) where
 mem := by simp
 obj := fun i h st b hb => by
  have e : b = it := by simpa using hb
  subst e
  exact ⟨_, st, fun v z => by
   have z' : Data.fields _ = Data.cell v := z
   cases z'⟩
 keep := fun i h h' st k => k it (by simp) _ st
 item := by
  intro X hP hw hK hc i pins s σ H E I hf st hg
  subst hP hw hK
  obtain ⟨f0, f1, f2, f3, f4, f5⟩ := hf it (by simp)
  have W := Walks.range (prog := X.prog) (w := X.w) (I.ok.hd hc) it lo 1 n
  refine W.item i s _ _ hg st fun v h' tk hv st' kk => ?_
  obtain ⟨t, rfl⟩ := hv
  have I1 : Inv X pins σ H { s with heap := h', toks := tk } := I.turned (fun b o hb e => kk b o (by simpa using hb) e) f0 f1 f3 f4 f5
  refine ⟨_, rfl, LP (s := { s with heap := h', toks := tk }) (n := "range_iterator") st' rfl rfl (by decide) ⟨.int (lo + i), H, I1, ⟨t, ?_⟩, ⟨rfl, rfl⟩, st', fun b hb => (hf b hb).1⟩⟩
  rw [Int.mul_one]
 done := by
  intro X hP hw hK hc i pins s σ H E I hf st hg
  subst hP hw hK
  obtain ⟨f0, f1, f2, f3, f4, f5⟩ := hf it (by simp)
  exact wpAny_pyNext_range_end (I.ok.hd hc) st (by have : n ≤ i := hg; omega) fun h' eb => ⟨rfl, I.turned (t' := s.toks) (fun b o hb e => eb b o hb e) f0 f1 f3 f4 f5⟩
 self := fun _ _ _ _ _ st h => wpAny_pyIter_rangeiter st h
end L2
namespace L2
open PySem PySem.Spec PyProof.Rows
section
variable {X : Cx} {tg : Expr}
def ZdW (K : PySem.W.Frag) (tl : TE) : TI := fun σ H R => tl σ H fun x H1 => ∃ a, x = .ref a ∧ (∃ xs, SqL K H1 a xs) ∧ R (Itl K a) H1
def ZgB (K : PySem.W.Frag) (tl : TE) : TI := fun σ H R => tl σ H fun x H1 => ∃ a, x = .ref a ∧ (∃ xs, SqT K H1 a xs) ∧ R (Itt K a) H1
theorem D6 {l : Expr} {tl : TE} (hl : PE X l tl) : PI X tg l (ZdW X.K tl) := by
 intro pins s σ H R I h
 refine thn (hl pins s σ H _ I h) fun v s1 ⟨x, H1, I1, r1, q1⟩ => ?_
 obtain ⟨a, e, ⟨xs, hq⟩, q⟩ := q1
 subst e
 cases r1
 obtain ⟨its, rv, p, hz⟩ := I1.list hq
 refine wpAny_pyIter_list p.isList ?_
 refine ⟨s1.heap.objs.size, [s1.heap.objs.size], _, _, H1, rfl, I1.kept (t' := s1.toks) fun b o e => Heap.get?_push_of_some _ e, DP a _, ⟨_, Heap.get?_push_size _ rfl, rfl, rfl⟩, fun b hb => ?_, q⟩
 have e : b = s1.heap.objs.size := by simpa using hb
 subst e
 exact I1.To (Nat.le_refl _) (I1.hok.fresh (Nat.le_refl _))
theorem O4 {l : Expr} {tl : TE} (hl : PE X l tl) : PI X tg l (ZgB X.K tl) := by
 intro pins s σ H R I h
 refine thn (hl pins s σ H _ I h) fun v s1 ⟨x, H1, I1, r1, q1⟩ => ?_
 obtain ⟨a, e, ⟨xs, hq⟩, q⟩ := q1
 subst e
 cases r1
 obtain ⟨its, rv, p, hz⟩ := I1.tuple hq
 refine wpAny_pyIter_tuple (show s1.heap.IsTuple a its.toArray from p) ?_
 refine ⟨s1.heap.objs.size, [s1.heap.objs.size], _, _, H1, rfl, I1.kept (t' := s1.toks) fun b o e => Heap.get?_push_of_some _ e, B1 a _, ⟨_, Heap.get?_push_size _ rfl, rfl, rfl⟩, fun b hb => ?_, q⟩
 have e : b = s1.heap.objs.size := by simpa using hb
 subst e
 exact I1.To (Nat.le_refl _) (I1.hok.fresh (Nat.le_refl _))
theorem G7 {pins : List (Addr × Obj)} {σ : St} {H : Hp} {s : Shared} {R : It → Hp → Prop} {E : Value → Shared → Prop} {lo hi : Int} {t u v : Tok} {tk : Nat} (I : Inv X pins σ H s) (h1 : -(2 ^ 62) ≤ lo) (h2 : lo < 2 ^ 62) (h3 : -(2 ^ 62) ≤ hi) (h4 : hi < 2 ^ 62)
  (q : R (Itr lo (hi - lo).toNat) H) : wpAny (model X.prog X.w) X.A (pyIter (.ref s.heap.objs.size)) (PIE X pins σ tg R) E { s with heap := s.heap.push { cls := .type "range", data := .fields #[.int lo t, .int hi u, .int 1 v] }, toks := tk } := by
 refine wpAny_pyIter_range (IsRange.new ..) (small_one h1 h2 h3 h4) ?_
 have I1 : Inv X pins σ H { s with heap := s.heap.push { cls := .type "range", data := .fields #[.int lo t, .int hi u, .int 1 v] }, toks := tk } := I.kept fun b o e => Heap.get?_push_of_some _ e
 refine ⟨(s.heap.push { cls := .type "range", data := .fields #[.int lo t, .int hi u, .int 1 v] }).objs.size, [(s.heap.push { cls := .type "range", data := .fields #[.int lo t, .int hi u, .int 1 v] }).objs.size], _, _, H, rfl,
  I1.kept (t' := tk) fun b o e => Heap.get?_push_of_some _ e, B2 _ lo (hi - lo).toNat, ?_, fun b hb => ?_, q⟩
 ·have e1 : lo + ((0 : Nat) : Int) * 1 = lo := by simp
  have e2 : (((hi - lo).toNat : Nat) : Int) - ((0 : Nat) : Int) = Builtin.Range.rangeSize lo hi 1 := by rw [rangeSize_one]; split <;> omega
  show IsRangeIter _ _ (lo + ((0 : Nat) : Int) * 1) ((((hi - lo).toNat : Nat) : Int) - ((0 : Nat) : Int)) 1
  rw [e1, e2]
  exact Heap.get?_push_size _ rfl
 ·have e : b = (s.heap.push { cls := .type "range", data := .fields #[.int lo t, .int hi u, .int 1 v] }).objs.size := by simpa using hb
  subst e
  exact I1.To (Nat.le_refl _) (I1.hok.fresh (Nat.le_refl _))
def Zew (ta : TA) : TI := fun σ H R => ta σ H fun vs H1 => ∃ j : Int, vs = [.int j] ∧ -(2 ^ 62) ≤ j ∧ j < 2 ^ 62 ∧ R (Itr 0 j.toNat) H1
def Zei (ta : TA) : TI := fun σ H R => ta σ H fun vs H1 => ∃ i j : Int, vs = [.int i, .int j] ∧ (-(2 ^ 62) ≤ i ∧ i < 2 ^ 62 ∧ -(2 ^ 62) ≤ j ∧ j < 2 ^ 62) ∧ R (Itr i (j - i).toNat) H1
theorem Wu {a : Expr} {ta : TA} {p pos : Pos} (hg : Gl X "range") (hm : X.mg "range" = none) (ha : PA X [a] ta) (hs : autoParam (starEach [a] X.env = [(false, eval a X.env)]) zz3._auto_1) : PI X tg (.Call (.Name "range" p) [a] [] pos) (Zew ta) := by
 intro pins s σ H R I h
 refine Call_ (Xk I hg hm boot_range (PyProof.Rows.callWith_type1 (thn (ha pos pins s σ H _ I h) fun us s1 ⟨vs, H1, I1, r1, q1⟩ => ?_) hs rfl))
 obtain ⟨j, e, q1, q2, q⟩ := q1
 subst e
 cases r1 with
 | cons r rr =>
  cases rr
  obtain ⟨t, rfl⟩ := r
  exact call_range_1 (G7 I1 (by omega) (by omega) q1 q2 (by simpa using q))
theorem Fp {a b : Expr} {ta : TA} {p pos : Pos} (hg : Gl X "range") (hm : X.mg "range" = none) (ha : PA X [a, b] ta) (hs : autoParam (starEach [a, b] X.env = [(false, eval a X.env), (false, eval b X.env)]) zz3._auto_1) (hs2 : autoParam (starEach [b] X.env = [(false, eval b X.env)]) zz3._auto_1) :
  PI X tg (.Call (.Name "range" p) [a, b] [] pos) (Zei ta) := by
 intro pins s σ H R I h
 refine Call_ (Xk I hg hm boot_range (PyProof.Rows.callWith_type1 (thn (ha pos pins s σ H _ I h) fun us s1 ⟨vs, H1, I1, r1, q1⟩ => ?_) (by rw [hs, hs2]) (by rw [hs2]; rfl)))
 obtain ⟨i, j, e, ⟨q1, q2, q3, q4⟩, q⟩ := q1
 subst e
 cases r1 with
 | cons r rr =>
  cases rr with
  | cons r' rr =>
   cases rr
   obtain ⟨t, rfl⟩ := r
   obtain ⟨t', rfl⟩ := r'
   exact call_range_2 (G7 I1 q1 q2 q3 q4 q)
def Zgy (wi : TI) (g : TG) (tb : TS) : TS := fun D σ H => wi σ H fun J H1 => ∃ W : Nat → Nat → St → Hp → Prop, (∃ m, W 0 m σ H1) ∧ ∀ i m σ H, W i m σ H →
 (J.stop i H ∧ D.nx σ H) ∨ (J.go i H ∧ ∃ N : St → Hp → Prop, (∀ σ' H', N σ' H' → ∃ m', m' < m ∧ W (i + 1) m' σ' H') ∧ ∀ x H', J.yld i H x H' → g x σ H' fun σ2 H2 => tb { D with nx := N, ct := N, bk := D.nx } σ2 H2)
noncomputable def Xi (fp : List Addr) (h : Heap) : List (Addr × Obj) := fp.filterMap fun b => (h.get? b).map fun o => (b, o)
theorem QH {fp : List Addr} {h : Heap} {b : Addr} {o : Obj} (hb : b ∈ fp) (e : h.get? b = some o) : (b, o) ∈ Xi fp h := List.mem_filterMap.mpr ⟨b, hb, by rw [e]; rfl⟩
theorem CV {fp : List Addr} {h : Heap} {p : Addr × Obj} (hp : p ∈ Xi fp h) : p.1 ∈ fp ∧ h.get? p.1 = some p.2 := by
 obtain ⟨b, hb, e⟩ := List.mem_filterMap.mp hp
 cases q : h.get? b with
 | none => rw [q] at e; cases e
 | some o =>
  rw [q] at e
  have e' : (b, o) = p := Option.some.inj e
  subst e'
  exact ⟨hb, q⟩
theorem Inv.pinned {pins : List (Addr × Obj)} {σ : St} {H : Hp} {s : Shared} {fp : List Addr} (I : Inv X pins σ H s) (hf : ∀ b ∈ fp, Us X pins H b) (ho : ∀ b ∈ fp, ∃ o, s.heap.get? b = some o ∧ ∀ v, o.data ≠ .cell v) : Inv X (pins ++ Xi fp s.heap) σ H s :=
 I.Vz fun p hp => (List.mem_append.mp hp).elim (fun z => I.pin p (List.mem_append_right _ z)) fun z => by
  obtain ⟨hb, e⟩ := CV z
  obtain ⟨f0, f1, f2, _⟩ := hf p.1 hb
  obtain ⟨o, e', d⟩ := ho p.1 hb
  rw [e] at e'; cases e'
  exact ⟨e, f0, f1, f2, d⟩
theorem Inv.X5 {pins pl : List (Addr × Obj)} {σ : St} {H : Hp} {s : Shared} (I : Inv X (pins ++ pl) σ H s) : Inv X pins σ H s := I.Vz fun p hp => I.pin p (List.mem_append_right _ (List.mem_append_left _ hp))
theorem We {iter : Expr} {body : List Stmt} {wi : TI} {g : TG} {tb : TS} {pos : Pos} (hp : PassesOwn (model X.prog X.w) X.A X.env X.xe) (hc : X.calm = true) (hi : PI X tg iter wi) (hg : PG X tg g) (hb : PSs X body tb)
  (hs : autoParam (∀ x, foldedSetIterable iter X.env x = pure x) zz2._auto_1) : PS X (.For tg iter body [] pos) (Zgy wi g tb) := by
 intro pins s σ H D I h
 refine wpAny_For (thn (hi pins s σ H _ I h) fun v s1 h1 => thn h1 fun itv s2 h2 => ?_) hs
 obtain ⟨it, fp, tn, J, H2, e, I2, T, st2, f2, W, ⟨m0, w0⟩, turn⟩ := h2
 subst e
 have stat : ∀ {H' : Hp}, (∀ b ∈ fp, H' b = none) → ∀ b ∈ fp, Us X pins H' b := fun hn b hb => ⟨hn b hb, (f2 b hb).2⟩
 refine codeAny_forLoop_any (fun n s' => ∃ i σ' H', Inv X pins σ' H' s' ∧ tn i s'.heap ∧ (∀ b ∈ fp, H' b = none) ∧ W i n σ' H') ?_ m0 ⟨0, σ, H2, I2, st2, fun b hb => (f2 b hb).1, w0⟩
 rintro n s3 ⟨i, σ3, H3, I3, st3, fr3, w3⟩
 rcases turn i n σ3 H3 w3 with ⟨stop, qn⟩ | ⟨go, N, hN, step⟩
 ·refine wpAny_passesOwn hp (thn (T.done X rfl rfl rfl hc i pins s3 σ3 H3 X.xe I3 (stat fr3) st3 stop) fun r s4 ⟨hr, I4⟩ => ?_)
  subst hr
  exact wpAny_execs_nil ⟨σ3, H3, I4, qn⟩
 ·refine wpAny_passesOwn hp (thn (T.item X rfl rfl rfl hc i pins s3 σ3 H3 X.xe I3 (stat fr3) st3 go) fun r s4 ⟨u, hr, h4⟩ => ?_)
  subst hr
  refine wpAny_passesOwn hp (thn h4 fun _ s5 ⟨x, H5, I5, r5, y5, st5, fr5⟩ => ?_)
  have I5' := I5.pinned (stat fr5) (T.obj _ _ st5)
  refine wpAny_passesOwn hp (thn (hg _ s5 σ3 H5 x u _ I5' r5 (step x H5 y5)) fun _ s6 ⟨σ6, H6, I6, q6⟩ => ?_)
  refine wpAny_passesOwn hp (thn (hb _ s6 σ6 H6 _ I6 q6) fun f s7 q7 => ?_)
  have again : ∀ {σ7 : St} {H7 : Hp}, Inv X (pins ++ Xi fp s5.heap) σ7 H7 s7 → N σ7 H7 → ∃ m, m < n ∧ ∃ i σ' H', Inv X pins σ' H' s7 ∧ tn i s7.heap ∧ (∀ b ∈ fp, H' b = none) ∧ W i m σ' H' := fun {σ7 H7} I7 n7 => by
   obtain ⟨m', hm, w7⟩ := hN σ7 H7 n7
   refine ⟨m', hm, i + 1, σ7, H7, I7.X5, T.keep _ _ _ st5 fun b hb o e => (I7.pin (b, o) (List.mem_append_right _ (List.mem_append_right _ (QH hb e)))).1, fun b hb => ?_, w7⟩
   obtain ⟨o, e, d⟩ := T.obj _ _ st5 b hb
   exact (I7.pin (b, o) (List.mem_append_right _ (List.mem_append_right _ (QH hb e)))).2.1
  cases f with
  | next => obtain ⟨σ7, H7, I7, n7⟩ := q7; exact again I7 n7
  | cont => obtain ⟨σ7, H7, I7, n7⟩ := q7; exact again I7 n7
  | brk => obtain ⟨σ7, H7, I7, q7⟩ := q7; exact ⟨σ7, H7, I7.X5, q7⟩
  | ret v => obtain ⟨x7, σ7, H7, I7, r7, q7⟩ := q7; exact ⟨x7, σ7, H7, I7.X5, r7, q7⟩
end
theorem HY {K : PySem.W.Frag} {a : Addr} {xs : List V} {g : TG} {tb : TS} {D : Ends} {σ : St} {H : Hp} (Pv : Nat → St → Hp → Prop) (h0 : Pv 0 σ H) (hl : ∀ i σ H, i ≤ xs.length → Pv i σ H → SqL K H a xs)
  (hs : ∀ i x σ H, xs[i]? = some x → Pv i σ H → g x σ H fun σ2 H2 => tb { D with nx := Pv (i + 1), ct := Pv (i + 1), bk := D.nx } σ2 H2) (hd : ∀ σ H, Pv xs.length σ H → D.nx σ H) :
  ∃ W : Nat → Nat → St → Hp → Prop, (∃ m, W 0 m σ H) ∧ ∀ i m σ H, W i m σ H →
   ((Itl K a).stop i H ∧ D.nx σ H) ∨ ((Itl K a).go i H ∧ ∃ N : St → Hp → Prop, (∀ σ' H', N σ' H' → ∃ m', m' < m ∧ W (i + 1) m' σ' H') ∧ ∀ x H', (Itl K a).yld i H x H' → g x σ H' fun σ2 H2 => tb { D with nx := N, ct := N, bk := D.nx } σ2 H2) := by
 refine ⟨fun i m σ H => m = xs.length - i ∧ i ≤ xs.length ∧ Pv i σ H, ⟨xs.length, by simp, Nat.zero_le _, h0⟩, ?_⟩
 rintro i m σ H ⟨rfl, hi, p⟩
 have q := hl i σ H hi p
 by_cases hlt : i < xs.length
 ·refine .inr ⟨⟨xs, xs[i], q, by simp [hlt]⟩, Pv (i + 1), fun σ' H' p' => ⟨xs.length - (i + 1), by omega, rfl, hlt, p'⟩, fun x H' y => ?_⟩
  obtain ⟨e, y⟩ := y
  subst e
  exact hs i x σ _ (y xs q) p
 ·have e : i = xs.length := by omega
  subst e
  exact .inl ⟨⟨xs, q, Nat.le_refl _⟩, hd σ H p⟩
theorem SS {K : PySem.W.Frag} {a : Addr} {xs : List V} {g : TG} {tb : TS} {D : Ends} {σ : St} {H : Hp} (Pv : Nat → St → Hp → Prop) (h0 : Pv 0 σ H) (hl : ∀ i σ H, i ≤ xs.length → Pv i σ H → SqT K H a xs)
  (hs : ∀ i x σ H, xs[i]? = some x → Pv i σ H → g x σ H fun σ2 H2 => tb { D with nx := Pv (i + 1), ct := Pv (i + 1), bk := D.nx } σ2 H2) (hd : ∀ σ H, Pv xs.length σ H → D.nx σ H) :
  ∃ W : Nat → Nat → St → Hp → Prop, (∃ m, W 0 m σ H) ∧ ∀ i m σ H, W i m σ H →
   ((Itt K a).stop i H ∧ D.nx σ H) ∨ ((Itt K a).go i H ∧ ∃ N : St → Hp → Prop, (∀ σ' H', N σ' H' → ∃ m', m' < m ∧ W (i + 1) m' σ' H') ∧ ∀ x H', (Itt K a).yld i H x H' → g x σ H' fun σ2 H2 => tb { D with nx := N, ct := N, bk := D.nx } σ2 H2) := by
 refine ⟨fun i m σ H => m = xs.length - i ∧ i ≤ xs.length ∧ Pv i σ H, ⟨xs.length, by simp, Nat.zero_le _, h0⟩, ?_⟩
 rintro i m σ H ⟨rfl, hi, p⟩
 have q := hl i σ H hi p
 by_cases hlt : i < xs.length
 ·refine .inr ⟨⟨xs, xs[i], q, by simp [hlt]⟩, Pv (i + 1), fun σ' H' p' => ⟨xs.length - (i + 1), by omega, rfl, hlt, p'⟩, fun x H' y => ?_⟩
  obtain ⟨e, y⟩ := y
  subst e
  exact hs i x σ _ (y xs q) p
 ·have e : i = xs.length := by omega
  subst e
  exact .inl ⟨⟨xs, q, Nat.le_refl _⟩, hd σ H p⟩
theorem Hn {lo : Int} {n : Nat} {g : TG} {tb : TS} {D : Ends} {σ : St} {H : Hp} (Pv : Nat → St → Hp → Prop) (h0 : Pv 0 σ H)
  (hs : ∀ i σ H, i < n → Pv i σ H → g (.int (lo + i)) σ H fun σ2 H2 => tb { D with nx := Pv (i + 1), ct := Pv (i + 1), bk := D.nx } σ2 H2) (hd : ∀ σ H, Pv n σ H → D.nx σ H) :
  ∃ W : Nat → Nat → St → Hp → Prop, (∃ m, W 0 m σ H) ∧ ∀ i m σ H, W i m σ H →
   ((Itr lo n).stop i H ∧ D.nx σ H) ∨ ((Itr lo n).go i H ∧ ∃ N : St → Hp → Prop, (∀ σ' H', N σ' H' → ∃ m', m' < m ∧ W (i + 1) m' σ' H') ∧ ∀ x H', (Itr lo n).yld i H x H' → g x σ H' fun σ2 H2 => tb { D with nx := N, ct := N, bk := D.nx } σ2 H2) := by
 refine ⟨fun i m σ H => m = n - i ∧ i ≤ n ∧ Pv i σ H, ⟨n, by simp, Nat.zero_le _, h0⟩, ?_⟩
 rintro i m σ H ⟨rfl, hi, p⟩
 by_cases hlt : i < n
 ·refine .inr ⟨hlt, Pv (i + 1), fun σ' H' p' => ⟨n - (i + 1), by omega, rfl, hlt, p'⟩, fun x H' y => ?_⟩
  obtain ⟨e, y⟩ := y
  subst e y
  exact hs i σ _ hlt p
 ·have e : i = n := by omega
  subst e
  exact .inl ⟨Nat.le_refl _, hd σ H p⟩
end L2
namespace L2
open PySem PySem.Spec PyProof.Rows
abbrev R2 := V → V → Hp → VK → Prop
def OpR (X : Cx) (f : Value → Value → Sem Value) (r : R2) : Prop :=
 ∀ (pins : List (Addr × Obj)) (s : Shared) (σ : St) (H : Hp) (x y : V) (v u : Value) (Q : VK), Inv X pins σ H s → RelV x v → RelV y u → r x y H Q →
  wpAny (model X.prog X.w) X.A (f v u) (EP X pins σ Q) X.xe s
def UnR (X : Cx) (f : Value → Sem Value) (r : V → Hp → VK → Prop) : Prop :=
 ∀ (pins : List (Addr × Obj)) (s : Shared) (σ : St) (H : Hp) (x : V) (v : Value) (Q : VK), Inv X pins σ H s → RelV x v → r x H Q →
  wpAny (model X.prog X.w) X.A (f v) (EP X pins σ Q) X.xe s
def QF (X : Cx) (f : Value) (r : List V → Hp → VK → Prop) : Prop :=
 ∀ (pins : List (Addr × Obj)) (s : Shared) (σ : St) (H : Hp) (xs : List V) (us : List Value) (Q : VK), Inv X pins σ H s → Vals xs us → r xs H Q →
  wpAny (model X.prog X.w) X.A (call f us) (EP X pins σ Q) X.xe s
def Zhd (X : Cx) (r : V → Hp → (Bool → Hp → Prop) → Prop) : Prop :=
 ∀ (pins : List (Addr × Obj)) (s : Shared) (σ : St) (H : Hp) (x : V) (v : Value) (Q : Bool → Hp → Prop), Inv X pins σ H s → RelV x v → r x H Q →
  wpAny (model X.prog X.w) X.A (truthy v) (TP X pins σ Q) X.xe s
def tOp (r : R2) (ta tb : TE) : TE := fun σ H Q => ta σ H fun x H1 => tb σ H1 fun y H2 => r x y H2 Q
def tUn (r : V → Hp → VK → Prop) (ta : TE) : TE := fun σ H Q => ta σ H fun x H1 => r x H1 Q
def rI (C : Int → Int → Prop) (g : Int → Int → V) : R2 := fun x y H Q => ∃ i j, x = .int i ∧ y = .int j ∧ C i j ∧ Q (g i j) H
def rI0 (g : Int → Int → V) : R2 := fun x y H Q => ∃ i j, x = .int i ∧ y = .int j ∧ Q (g i j) H
def rU (g : Int → V) : V → Hp → VK → Prop := fun x H Q => ∃ i, x = .int i ∧ Q (g i) H
section
variable {X : Cx} {a b c : Expr} {ta tb tc : TE} {pos : Pos}
theorem ZeK (ha : PE X a ta) (hb : PE X b tb) {pins : List (Addr × Obj)} {s : Shared} {σ : St} {H : Hp} {R : V → V → Hp → Prop} (I : Inv X pins σ H s)
  (h : ta σ H fun x H1 => tb σ H1 fun y H2 => R x y H2) {Q : Value → Shared → Prop} {f : Value → Value → Sem Value}
  (hf : ∀ v u s2 x y H2, Inv X pins σ H2 s2 → RelV x v → RelV y u → R x y H2 → wpAny (model X.prog X.w) X.A (f v u) Q X.xe s2) :
  wpAny (model X.prog X.w) X.A (eval a X.env) (fun v s₁ => wpAny (model X.prog X.w) X.A (eval b X.env) (fun u s₂ => wpAny (model X.prog X.w) X.A (f v u) Q X.xe s₂) X.xe s₁) X.xe s := by
 refine thn (ha pins s σ H _ I h) fun v s1 ⟨x, H1, I1, r1, q1⟩ => ?_
 refine thn (hb pins s1 σ H1 _ I1 q1) fun u s2 ⟨y, H2, I2, r2, q2⟩ => ?_
 exact hf v u s2 x y H2 I2 r1 r2 q2
theorem ZeS {op : Operator} {r : R2} (ho : OpR X (binaryOp op) r) (ha : PE X a ta) (hb : PE X b tb) : PE X (.BinOp a op b pos) (tOp r ta tb) := by
 intro pins s σ H Q I h
 exact wpAny_BinOp (ZeK ha hb I h fun v u s2 x y H2 I2 rx ry q => ho pins s2 σ H2 x y v u Q I2 rx ry q)
theorem ZdY {op : UnaryOp} {r : V → Hp → VK → Prop} (ho : UnR X (unaryOp op) r) (ha : PE X a ta) : PE X (.UnaryOp op a pos) (tUn r ta) := by
 intro pins s σ H Q I h
 exact UnaryOp_ (thn (ha pins s σ H _ I h) fun v s1 ⟨x, H1, I1, r1, q1⟩ => ho pins s1 σ H1 x v Q I1 r1 q1)
theorem opI {f : Value → Value → Sem Value} {C : Int → Int → Prop} {g : Int → Int → Int}
  (rule : ∀ (i j : Int) (t u : Tok) (s : Shared) (Q : Value → Shared → Prop) (E : Value → Shared → Prop), C i j → Q (.int (g i j) s.toks) { s with toks := s.toks + 1 } → wpAny (model X.prog X.w) X.A (f (.int i t) (.int j u)) Q E s) :
  OpR X f (rI C fun i j => .int (g i j)) := by
 intro pins s σ H x y v u Q I rx ry h
 obtain ⟨i, j, rfl, rfl, hc, q⟩ := h
 obtain ⟨t, rfl⟩ := rx
 obtain ⟨t', rfl⟩ := ry
 exact rule i j t t' s _ _ hc ⟨.int (g i j), H, I.tok _, ⟨_, rfl⟩, q⟩
theorem ZfM {f : Value → Value → Sem Value} {g : Int → Int → Int}
  (rule : ∀ (i j : Int) (t u : Tok) (s : Shared) (Q : Value → Shared → Prop) (E : Value → Shared → Prop), Q (.int (g i j) s.toks) { s with toks := s.toks + 1 } → wpAny (model X.prog X.w) X.A (f (.int i t) (.int j u)) Q E s) :
  OpR X f (rI0 fun i j => .int (g i j)) := by
 intro pins s σ H x y v u Q I rx ry h
 obtain ⟨i, j, rfl, rfl, q⟩ := h
 obtain ⟨t, rfl⟩ := rx
 obtain ⟨t', rfl⟩ := ry
 exact rule i j t t' s _ _ ⟨.int (g i j), H, I.tok _, ⟨_, rfl⟩, q⟩
theorem Zdr {f : Value → Value → Sem Value} {g : Int → Int → Bool}
  (rule : ∀ (i j : Int) (t u : Tok) (s : Shared) (Q : Value → Shared → Prop) (E : Value → Shared → Prop), Q (.bool (g i j)) s → wpAny (model X.prog X.w) X.A (f (.int i t) (.int j u)) Q E s) :
  OpR X f (rI0 fun i j => .bl (g i j)) := by
 intro pins s σ H x y v u Q I rx ry h
 obtain ⟨i, j, rfl, rfl, q⟩ := h
 obtain ⟨t, rfl⟩ := rx
 obtain ⟨t', rfl⟩ := ry
 exact rule i j t t' s _ _ ⟨.bl (g i j), H, I, rfl, q⟩
def Zfa (i j : Int) : Prop := 0 < j ∧ j < 1073741824
def Zgm (i j : Int) : Prop := j ≠ 0 ∧ j.natAbs < 1073741824
def Zd3 (i j : Int) : Prop := 0 ≤ j ∧ j ≤ 1000000 ∧ i.natAbs < 2 ^ 64
def Zdu (i j : Int) : Prop := (-(2 ^ 64) < i ∧ i < 2 ^ 64) ∨ (-(2 ^ 64) < j ∧ j < 2 ^ 64)
theorem Zdu.ok {i j : Int} (h : Zdu i j) : IntMulOk i j := by
 rcases h with ⟨h1, h2⟩ | ⟨h1, h2⟩
 ·exact .of_left (intBits_le_64 h1 h2)
 ·exact .of_right (intBits_le_64 h1 h2)
theorem Zax : OpR X (binaryOp .Add) (rI0 fun i j => .int (i + j)) := ZfM fun _ _ _ _ _ _ _ q => add_int q
theorem ZaY : OpR X (binaryOp .Sub) (rI0 fun i j => .int (i - j)) := ZfM fun _ _ _ _ _ _ _ q => sub_int q
theorem Za9 : OpR X (binaryOp .Mult) (rI Zdu fun i j => .int (i * j)) := opI fun _ _ _ _ _ _ _ hc q => mul_int q hc.ok
theorem Tv : OpR X (binaryOp .FloorDiv) (rI Zfa fun i j => .int (i / j)) := opI fun i j _ _ _ _ _ hc q => by
 have h1 : (0 : Int) < j := hc.1
 have h2 : j < 1073741824 := hc.2
 exact floordiv_int (by omega) (by rw [Int.fdiv_eq_ediv_of_nonneg i (by omega)]; exact q) (.inl (PyProof.noPylong_small (by omega)))
theorem Zcg : OpR X (binaryOp .Mod) (rI (fun _ j => 0 < j) fun i j => .int (i % j)) := opI fun i j _ _ _ _ _ hc q => by
 have h1 : (0 : Int) < j := hc
 exact mod_int' (by omega) (by rw [Int.fmod_eq_emod_of_nonneg i (by omega)]; exact q)
theorem Zcz : OpR X (binaryOp .Pow) (rI Zd3 fun i j => .int (i ^ j.toNat)) := opI fun _ _ _ _ _ _ _ hc q => pow_int_small hc.1 hc.2.1 hc.2.2 q
theorem unI {f : Value → Sem Value} {g : Int → Int}
  (rule : ∀ (i : Int) (t : Tok) (s : Shared) (Q : Value → Shared → Prop) (E : Value → Shared → Prop), Q (.int (g i) s.toks) { s with toks := s.toks + 1 } → wpAny (model X.prog X.w) X.A (f (.int i t)) Q E s) :
  UnR X f (rU fun i => .int (g i)) := by
 intro pins s σ H x v Q I rx h
 obtain ⟨i, rfl, q⟩ := h
 obtain ⟨t, rfl⟩ := rx
 exact rule i t s _ _ ⟨.int (g i), H, I.tok _, ⟨_, rfl⟩, q⟩
theorem ZbA : UnR X (unaryOp .USub) (rU fun i => .int (-i)) := unI fun _ _ _ _ _ q => neg_int q
end
noncomputable def Ze7 : V → V → Bool
 | .non, .non => true | .non, .int _ => true | .int _, .non => true | .non, .bl _ => true | .bl _, .non => true | .non, .str _ => true | .str _, .non => true
 | .int _, .int _ => true | .bl _, .bl _ => true | .str _, .str _ => true | .byt _, .byt _ => true
 | .int _, .str _ => true | .str _, .int _ => true | .bl _, .str _ => true | .str _, .bl _ => true
 | _, _ => false
def rEq : R2 := fun x y H Q => Ze7 x y = true ∧ Q (.bl (decide (x = y))) H
def rNe : R2 := fun x y H Q => Ze7 x y = true ∧ Q (.bl (!decide (x = y))) H
theorem Ey {i j : Int} : decide (V.int i = V.int j) = (i == j) := by
 rw [Bool.eq_iff_iff]
 simp
theorem Ol {i j : Bool} : decide (V.bl i = V.bl j) = (i == j) := by
 rw [Bool.eq_iff_iff]
 simp
theorem YC {i j : Str} : decide (V.str i = V.str j) = (i == j) := by
 rw [Bool.eq_iff_iff]
 simp
theorem Fz {i j : Array UInt8} : decide (V.byt i = V.byt j) = (i.toList == j.toList) := by
 rw [Bool.eq_iff_iff]
 cases i
 cases j
 simp
section
variable {X : Cx} {a b c : Expr} {ta tb tc : TE} {pos : Pos}
theorem ZP {pins : List (Addr × Obj)} {σ : St} {H : Hp} {s : Shared} {Q : VK} {k k' : Bool} (I : Inv X pins σ H s) (q : Q (.bl k) H) (e : k = k') : EP X pins σ Q (.bool k') s := by
 subst e
 exact ⟨.bl k, H, I, rfl, q⟩
theorem Zeg : OpR X (compareOp .Eq) rEq := by
 intro pins s σ H x y v u Q I rx ry h
 obtain ⟨hs, q⟩ := h
 cases x with
 | non =>
  cases rx
  cases y with
  | non => cases ry; exact PySem.EqNone.eq_none_none (ZP I q (by simp))
  | bl j => cases ry; exact PySem.EqNone.eq_none_bool (ZP I q (by simp))
  | int j => obtain ⟨t', rfl⟩ := ry; exact PySem.EqNone.eq_none_int (ZP I q (by simp))
  | str j => obtain ⟨t', rfl⟩ := ry; exact PySem.EqNone.eq_none_str (ZP I q (by simp))
  | _ => exact absurd (show false = true from hs) Bool.false_ne_true
 | bl i =>
  cases rx
  cases y with
  | non => cases ry; exact PySem.EqNone.eq_bool_none (ZP I q (by simp))
  | bl j => cases ry; exact eq_bool (ZP I q Ol)
  | str j => obtain ⟨t', rfl⟩ := ry; exact PySem.EqMixed.eq_bool_str (ZP I q (by simp))
  | _ => exact absurd (show false = true from hs) Bool.false_ne_true
 | int i =>
  obtain ⟨t, rfl⟩ := rx
  cases y with
  | non => cases ry; exact PySem.EqNone.eq_int_none (ZP I q (by simp))
  | int j => obtain ⟨t', rfl⟩ := ry; exact eq_int (ZP I q Ey)
  | str j => obtain ⟨t', rfl⟩ := ry; exact PySem.EqMixed.eq_int_str (ZP I q (by simp))
  | _ => exact absurd (show false = true from hs) Bool.false_ne_true
 | str i =>
  obtain ⟨t, rfl⟩ := rx
  cases y with
  | non => cases ry; exact PySem.EqNone.eq_str_none (ZP I q (by simp))
  | bl j => cases ry; exact PySem.EqMixed.eq_str_bool (ZP I q (by simp))
  | int j => obtain ⟨t', rfl⟩ := ry; exact PySem.EqMixed.eq_str_int (ZP I q (by simp))
  | str j => obtain ⟨t', rfl⟩ := ry; exact eq_str (ZP I q YC)
  | _ => exact absurd (show false = true from hs) Bool.false_ne_true
 | byt i =>
  obtain ⟨t, rfl⟩ := rx
  cases y with
  | byt j => obtain ⟨t', rfl⟩ := ry; exact PySem.W.eq_bytes (ZP I q Fz)
  | _ => exact absurd (show false = true from hs) Bool.false_ne_true
 | _ => cases y <;> exact absurd (show false = true from hs) Bool.false_ne_true
theorem Zc3 : OpR X (compareOp .NotEq) rNe := by
 intro pins s σ H x y v u Q I rx ry h
 obtain ⟨hs, q⟩ := h
 cases x with
 | non =>
  cases rx
  cases y with
  | non => cases ry; exact PySem.EqNone.ne_none_none (ZP I q (by simp))
  | bl j => cases ry; exact PySem.EqNone.ne_none_bool (ZP I q (by simp))
  | int j => obtain ⟨t', rfl⟩ := ry; exact PySem.EqNone.ne_none_int (ZP I q (by simp))
  | str j => obtain ⟨t', rfl⟩ := ry; exact PySem.EqNone.ne_none_str (ZP I q (by simp))
  | _ => exact absurd (show false = true from hs) Bool.false_ne_true
 | bl i =>
  cases rx
  cases y with
  | non => cases ry; exact PySem.EqNone.ne_bool_none (ZP I q (by simp))
  | bl j => cases ry; exact ne_bool (ZP I q (congrArg not Ol))
  | str j => obtain ⟨t', rfl⟩ := ry; exact PySem.EqMixed.ne_bool_str (ZP I q (by simp))
  | _ => exact absurd (show false = true from hs) Bool.false_ne_true
 | int i =>
  obtain ⟨t, rfl⟩ := rx
  cases y with
  | non => cases ry; exact PySem.EqNone.ne_int_none (ZP I q (by simp))
  | int j => obtain ⟨t', rfl⟩ := ry; exact ne_int (ZP I q (congrArg not Ey))
  | str j => obtain ⟨t', rfl⟩ := ry; exact PySem.EqMixed.ne_int_str (ZP I q (by simp))
  | _ => exact absurd (show false = true from hs) Bool.false_ne_true
 | str i =>
  obtain ⟨t, rfl⟩ := rx
  cases y with
  | non => cases ry; exact PySem.EqNone.ne_str_none (ZP I q (by simp))
  | bl j => cases ry; exact PySem.EqMixed.ne_str_bool (ZP I q (by simp))
  | int j => obtain ⟨t', rfl⟩ := ry; exact PySem.EqMixed.ne_str_int (ZP I q (by simp))
  | str j => obtain ⟨t', rfl⟩ := ry; exact ne_str (ZP I q (congrArg not YC))
  | _ => exact absurd (show false = true from hs) Bool.false_ne_true
 | byt i =>
  obtain ⟨t, rfl⟩ := rx
  cases y with
  | byt j => obtain ⟨t', rfl⟩ := ry; exact PySem.W.ne_bytes (ZP I q (congrArg not Fz))
  | _ => exact absurd (show false = true from hs) Bool.false_ne_true
 | _ => cases y <;> exact absurd (show false = true from hs) Bool.false_ne_true
theorem ZdR : OpR X (compareOp .Lt) (rI0 fun i j => .bl (decide (i < j))) := Zdr fun _ _ _ _ _ _ _ q => lt_int q
theorem Zd4 : OpR X (compareOp .LtE) (rI0 fun i j => .bl (decide (i ≤ j))) := Zdr fun _ _ _ _ _ _ _ q => le_int q
theorem ZeE : OpR X (compareOp .Gt) (rI0 fun i j => .bl (decide (j < i))) := Zdr fun _ _ _ _ _ _ _ q => gt_int q
theorem Zel : OpR X (compareOp .GtE) (rI0 fun i j => .bl (decide (j ≤ i))) := Zdr fun _ _ _ _ _ _ _ q => ge_int q
theorem Zcj : OpR X (compareOp .Is) (fun x y H Q => y = .non ∧ Q (.bl (decide (x = .non))) H) := by
 intro pins s σ H x y v u Q I rx ry h
 obtain ⟨rfl, q⟩ := h
 cases ry
 refine is_none_gen (ZP I q ?_)
 cases x <;> first
  | (cases rx; rfl)
  | (obtain ⟨t, rfl⟩ := rx; rfl)
theorem Pp : OpR X (compareOp .IsNot) (fun x y H Q => y = .non ∧ Q (.bl (!decide (x = .non))) H) := by
 intro pins s σ H x y v u Q I rx ry h
 obtain ⟨rfl, q⟩ := h
 cases ry
 refine isnot_none_gen (ZP I q ?_)
 cases x <;> first
  | (cases rx; rfl)
  | (obtain ⟨t, rfl⟩ := rx; rfl)
noncomputable def isObj : HO → Bool
 | .lst _ => true
 | .ins _ _ _ => true
 | _ => false
theorem OT (b : Expr) {op : CmpOp} (h : autoParam (op ≠ .In) zz1._auto_1) (h2 : autoParam (op ≠ .NotIn) zz1._auto_1) : behindInMarks op b = false := by
 have e1 : (op == CmpOp.In) = false := by cases op <;> first | rfl | exact absurd rfl h
 have e2 : (op == CmpOp.NotIn) = false := by cases op <;> first | rfl | exact absurd rfl h2
 cases b <;> simp [behindInMarks, e1, e2]
theorem RK {op : CmpOp} {r : R2} (ho : OpR X (compareOp op) r) (ha : PE X a ta) (hb : PE X b tb) (hm : behindInMarks op b = false) : PE X (.Compare a [op] [b] pos) (tOp r ta tb) := by
 intro pins s σ H Q I h
 exact wpAny_Compare1 (ZeK ha hb I h fun v u s2 x y H2 I2 rx ry q => ho pins s2 σ H2 x y v u Q I2 rx ry q) hm
def ZaD (t : TE) : TT := fun σ H Q => t σ H fun x H' => ∃ k, x = .bl k ∧ Q k H'
theorem Rg {op : CmpOp} {r : R2} (ho : OpR X (compareOp op) r) (ha : PE X a ta) (hb : PE X b tb) (hm : behindInMarks op b = false) : PT X (.Compare a [op] [b] pos) (ZaD (tOp r ta tb)) := by
 intro pins s σ H Q I h
 refine wpAny_isTrue_Compare1 (thn (ha pins s σ H _ I h) fun v s1 ⟨x, H1, I1, r1, q1⟩ => thn (hb pins s1 σ H1 _ I1 q1) fun u s2 ⟨y, H2, I2, r2, q2⟩ =>
  thn (ho pins s2 σ H2 x y v u _ I2 r1 r2 q2) fun c s3 ⟨z, H3, I3, r3, k, e, q3⟩ => ?_) hm
 subst e
 cases r3
 exact wpAny_truthy_bool ⟨H3, I3, q3⟩
def EB (r r' : R2) (ta tb tc : TE) : TE := fun σ H Q => ta σ H fun x H1 => tb σ H1 fun y H2 => r x y H2 fun z H3 => ∃ k, z = .bl k ∧
 (if k = true then tc σ H3 fun w' H4 => r' y w' H4 Q else Q (.bl false) H3)
theorem L1 {op op' : CmpOp} {r r' : R2} (ho : OpR X (compareOp op) r) (ho' : OpR X (compareOp op') r') (ha : PE X a ta) (hb : PE X b tb) (hc : PE X c tc)
  (hm : autoParam (lastMarks [op, op'] [b, c] = false) zz4._auto_1) : PE X (.Compare a [op, op'] [b, c] pos) (EB r r' ta tb tc) := by
 intro pins s σ H Q I h
 refine Compare_chain (thn (ha pins s σ H _ I h) fun v s1 ⟨x, H1, I1, r1, q1⟩ => chain_link (thn (hb pins s1 σ H1 _ I1 q1) fun u s2 ⟨y, H2, I2, r2, q2⟩ =>
  thn (ho pins s2 σ H2 x y v u _ I2 r1 r2 q2) fun d s3 ⟨z, H3, I3, r3, k, e, q3⟩ => ?_)) hm
 subst e
 cases r3
 refine wpAny_truthy_bool ?_
 cases k with
 | false => exact ite_ff ⟨.bl false, H3, I3, rfl, q3⟩
 | true => exact ite_tt (chain_last (thn (hc pins s3 σ H3 _ I3 q3) fun w' s4 ⟨z', H4, I4, r4, q4⟩ => ho' pins s4 σ H4 y z' u w' Q I4 r2 r4 q4))
theorem MD {op op' : CmpOp} {r r' : R2} (ho : OpR X (compareOp op) r) (ho' : OpR X (compareOp op') r') (ha : PE X a ta) (hb : PE X b tb) (hc : PE X c tc)
  (hm : autoParam (lastMarks [op, op'] [b, c] = false) zz4._auto_1) : PT X (.Compare a [op, op'] [b, c] pos) (ZaD (EB r r' ta tb tc)) := by
 intro pins s σ H Q I h
 refine isTrue_chain (thn (ha pins s σ H _ I h) fun v s1 ⟨x, H1, I1, r1, q1⟩ => test_link (thn (hb pins s1 σ H1 _ I1 q1) fun u s2 ⟨y, H2, I2, r2, q2⟩ =>
  thn (ho pins s2 σ H2 x y v u _ I2 r1 r2 q2) fun d s3 ⟨z, H3, I3, r3, k, e, q3⟩ => ?_)) hm
 subst e
 cases r3
 refine wpAny_truthy_bool ?_
 cases k with
 | false =>
  obtain ⟨k', e', q'⟩ := q3
  cases e'
  exact ite_ff ⟨H3, I3, q'⟩
 | true =>
  refine ite_tt (test_last (thn (hc pins s3 σ H3 _ I3 q3) fun w' s4 ⟨z', H4, I4, r4, q4⟩ => thn (ho' pins s4 σ H4 y z' u w' _ I4 r2 r4 q4) fun d' s5 ⟨z2, H5, I5, r5, k2, e2, q5⟩ => ?_))
  subst e2
  cases r5
  exact wpAny_truthy_bool ⟨H5, I5, q5⟩
def Zht (K : PySem.W.Frag) (x : V) (H : Hp) (k : Bool) : Prop :=
 match x with
 | .non => k = false
 | .bl b => k = b
 | .int i => k = (i != 0)
 | .str y => y.length ≤ sizeLine ∧ k = ((y.length : Int) != 0)
 | .byt y => y.size ≤ sizeLine ∧ k = ((y.size : Int) != 0)
 | .ref p => (∃ xs, SqL K H p xs ∧ k = !xs.isEmpty) ∨ (∃ xs, SqT K H p xs ∧ k = !xs.isEmpty) ∨ ∃ kvs, H p = some (.dK kvs) ∧ k = !kvs.isEmpty
 | _ => False
theorem WJ : (sizeLine : Nat) < 2 ^ 63 := by rw [sizeLine_eq]; decide
def Zdq (b : Expr) : Prop := ∀ o i, subscripted b false o i = operate [o, i] (getItem o i)
theorem vals1 {x : V} {us : List Value} (r : Vals [x] us) : ∃ u, us = [u] ∧ RelV x u := by
 cases r with
 | cons r1 r2 => cases r2; exact ⟨_, rfl, r1⟩
theorem vals2 {x y : V} {us : List Value} (r : Vals [x, y] us) : ∃ u w', us = [u, w'] ∧ RelV x u ∧ RelV y w' := by
 cases r with
 | cons r1 r2 =>
  cases r2 with
  | cons r3 r4 => cases r4; exact ⟨_, _, rfl, r1, r3⟩
theorem MI : QF X (.builtin "abs") (fun xs H Q => ∃ i, xs = [.int i] ∧ Q (.int (if i < 0 then -i else i)) H) := by
 intro pins s σ H xs us Q I r h
 obtain ⟨i, rfl, q⟩ := h
 obtain ⟨u, rfl, t, rfl⟩ := vals1 r
 exact call_abs_int fun u tk => ⟨.int (if i < 0 then -i else i), H, I.tok _, ⟨_, rfl⟩, q⟩
theorem EO (hc : X.calm = true) : QF X (.builtin "max") (fun xs H Q => ∃ i j, xs = [.int i, .int j] ∧ Q (.int (if j > i then j else i)) H) := by
 intro pins s σ H xs us Q I r h
 obtain ⟨i, j, rfl, q⟩ := h
 obtain ⟨u, w', rfl, ⟨t, rfl⟩, ⟨t', rfl⟩⟩ := vals2 r
 refine max_two_ints (I.ok.hd hc) fun h' tk k => ⟨_, H, I.kept k, ?_, q⟩
 by_cases hj : j > i
 ·rw [if_pos hj, if_pos hj]; exact ⟨_, rfl⟩
 ·rw [if_neg hj, if_neg hj]; exact ⟨_, rfl⟩
theorem E4 (hc : X.calm = true) : QF X (.builtin "min") (fun xs H Q => ∃ i j, xs = [.int i, .int j] ∧ Q (.int (if j < i then j else i)) H) := by
 intro pins s σ H xs us Q I r h
 obtain ⟨i, j, rfl, q⟩ := h
 obtain ⟨u, w', rfl, ⟨t, rfl⟩, ⟨t', rfl⟩⟩ := vals2 r
 refine min_two_ints (I.ok.hd hc) fun h' tk k => ⟨_, H, I.kept k, ?_, q⟩
 by_cases hj : j < i
 ·rw [if_pos hj, if_pos hj]; exact ⟨_, rfl⟩
 ·rw [if_neg hj, if_neg hj]; exact ⟨_, rfl⟩
theorem Hm : QF X (.type "int") (fun xs H Q => (∃ i, xs = [.int i] ∧ Q (.int i) H) ∨ ∃ k, xs = [.bl k] ∧ Q (.int (if k then 1 else 0)) H) := by
 intro pins s σ H xs us Q I r h
 rcases h with ⟨i, rfl, q⟩ | ⟨k, rfl, q⟩
 ·obtain ⟨u, rfl, t, rfl⟩ := vals1 r
  exact call_int_int ⟨.int i, H, I, ⟨_, rfl⟩, q⟩
 ·obtain ⟨u, rfl, r1⟩ := vals1 r
  cases r1
  exact call_int_bool ⟨.int (if k then 1 else 0), H, I.tok _, ⟨_, rfl⟩, q⟩
def Zhp (K : PySem.W.Frag) (x : V) (H : Hp) (n : Nat) : Prop :=
 match x with
 | .str y => y.length ≤ sizeLine ∧ n = y.length
 | .byt y => y.size ≤ sizeLine ∧ n = y.size
 | .ref p => (∃ xs, SqL K H p xs ∧ n = xs.length) ∨ ∃ xs, SqT K H p xs ∧ n = xs.length
 | _ => False
end
end L2
namespace L2
open PySem PySem.Spec PyProof.Rows
structure Ze1 (h : Heap) (x dx C : Addr) (mA : Str → Option Value) : Prop where
 obj : h.get? x = some (PySem.W.instObj C dx)
 ns : h.Ns1 dx mA
 ne : dx ≠ x
section
variable {prog : Program} {w : World} {A : Around} {E : Value → Shared → Prop} {s : Shared} {K : PySem.W.Frag} {x dx C f : Addr} {mA : Str → Option Value} {name : Str} {v : Value}
end
noncomputable def Zez (f : Str) (v : V) : List (Str × V) → List (Str × V)
 | [] => [(f, v)]
 | (g, x) :: r => if g = f then (g, v) :: r else (g, x) :: Zez f v r
theorem CO.some_of {v : V} {o : Option Value} (r : CO (some v) o) : ∃ u, o = some u ∧ RelV v u := by
 cases o with
 | none => exact (show False from r).elim
 | some u => exact ⟨u, rfl, r⟩
section
variable {P : Program} {w : World} {H H' : Hp} {h h' : Heap} {a C dx : Addr} {fs fs' : List (Str × V)}
end
structure Cls (K : PySem.W.Frag) (C : Addr) : Prop where
 pg : PySem.W.plainGet K C Str.empty = true
 hd : PySem.W.hasDictIn K C = true
 po : PySem.W.plainOver K C = true
 sa : PySem.W.findIn K (.ref C) "__setattr__" = some (some (.builtin "object.__setattr__"))
theorem Cls.get {K : PySem.W.Frag} {C : Addr} (c : Cls K C) (f : Str) : PySem.W.plainGet K C f = true := c.pg
def CQ (K : PySem.W.Frag) (C : Addr) (f : Str) : Prop := PySem.W.findIn K (.ref C) f = some none
structure Con (K : PySem.W.Frag) (C : Addr) (f : Str) (v : V) (u : Value) : Prop where
 at_ : PySem.W.findIn K (.ref C) f = some (some u)
 rel : RelV v u
 get : PySem.W.specialIn K u "__get__" = some none
 cp : PySem.W.copiedNames.contains f = false
structure Meth (K : PySem.W.Frag) (C : Addr) (m : Str) (f : Addr) : Prop where
 at_ : PySem.W.findIn K (.ref C) m = some (some (.ref f))
 fn : PySem.W.isFn K (.ref f) = true
 kp : PySem.W.keepIn K (.ref f) = true
section
variable {X : Cx} {pins : List (Addr × Obj)} {σ : St} {H : Hp} {s : Shared} {a C dx : Addr} {fs : List (Str × V)} {f : Str} {v : V} {A : Around} {E : Value → Shared → Prop}
end
def Zhe (K : PySem.W.Frag) (ta : TE) (f : Str) : TE := fun σ H Q => ta σ H fun x H1 => ∃ a C dx fs v, x = .ref a ∧ H1 a = some (.ins C dx fs) ∧ Cls K C ∧ CQ K C f ∧ fs.lookup f = some v ∧ Q v H1
def Zhx (K : PySem.W.Frag) (ta : TE) (f : Str) : TE := fun σ H Q => ta σ H fun x H1 => ∃ a C dx fs v u, x = .ref a ∧ H1 a = some (.ins C dx fs) ∧ Cls K C ∧ Con K C f v u ∧ fs.lookup f = none ∧ Q v H1
def Zhw (K : PySem.W.Frag) (ta tv : TE) (f : Str) : TS := fun D σ H => tv σ H fun y H1 => ta σ H1 fun x H2 => ∃ a C dx fs, x = .ref a ∧ H2 a = some (.ins C dx fs) ∧ Cls K C ∧ CQ K C f ∧ fs.length < 1000 ∧
 D.nx σ (upd H2 a (.ins C dx (Zez f y fs)))
def Zhy (X : Cx) (op : Operator) (rd : V → V → Hp → VK → Prop) : Prop :=
 ∀ (pins : List (Addr × Obj)) (s : Shared) (σ : St) (H : Hp) (x y : V) (u v : Value) (Q : VK), Inv X pins σ H s → RelV x u → RelV y v → rd x y H Q → wpAny (model X.prog X.w) X.A (inplaceOp op u v) (EP X pins σ Q) X.xe s
def ZeO (K : PySem.W.Frag) (ta tv : TE) (rd : V → V → Hp → VK → Prop) (f : Str) : TS := fun D σ H => ta σ H fun x H1 => ∃ a C dx fs v, x = .ref a ∧ H1 a = some (.ins C dx fs) ∧ Cls K C ∧ CQ K C f ∧ fs.lookup f = some v ∧
 tv σ H1 fun y H2 => rd v y H2 fun z H3 => ∃ dx' fs', H3 a = some (.ins C dx' fs') ∧ fs'.length < 1000 ∧ D.nx σ (upd H3 a (.ins C dx' (Zez f z fs')))
section
variable {X : Cx} {o e value : Expr} {f : Str} {pos pos' tpos : Pos} {ta tv : TE}
def Zhi : V → V → Hp → VK → Prop := fun x y H Q => ∃ i j, x = .int i ∧ y = .int j ∧ Q (.int (i + j)) H
def Zho : V → V → Hp → VK → Prop := fun x y H Q => ∃ i j, x = .int i ∧ y = .int j ∧ Q (.int (i - j)) H
end
section
variable {X : Cx} {pins : List (Addr × Obj)} {σ : St} {H : Hp} {s : Shared} {A : Around} {E : Value → Shared → Prop} {Q : Value → Shared → Prop} {c : Value} {b : Bool}
inductive C3 (K : PySem.W.Frag) (H : Hp) : V → Value → Prop where
 | non : C3 K H .non (.type "NoneType")
 | bl (x : Bool) : C3 K H (.bl x) (.type "bool")
 | int (i : Int) : C3 K H (.int i) (.type "int")
 | str (x : Str) : C3 K H (.str x) (.type "str")
 | flt (x : UInt64) : C3 K H (.flt x) (.type "float")
 | lst {a : Addr} {xs : List V} (e : H a = some (.lst xs)) : C3 K H (.ref a) (.type "list")
 | frz {a : Addr} {o : Obj} {xs : List V} (e : H a = some (.frz o (.lst xs))) : C3 K H (.ref a) (.type "list")
 | tup {a : Addr} {xs : List V} (e : H a = some (.tup xs)) : C3 K H (.ref a) (.type "tuple")
 | dK {a : Addr} {kvs : List (Key × V)} (e : H a = some (.dK kvs)) : C3 K H (.ref a) (.type "dict")
 | dT {a : Addr} {kvs : List (List Key × V)} (e : H a = some (.dT kvs)) : C3 K H (.ref a) (.type "dict")
 | ins {a C dx : Addr} {fs : List (Str × V)} (e : H a = some (.ins C dx fs)) (cl : Cls K C) (ha : PySem.W.findIn K (.ref C) "__class__" = some (some (.builtin "object.__class__")))
   (hn : PySem.W.specialIn K (.builtin "object.__class__") "__get__" = some (some (.builtin "getset_descriptor.__get__"))) (htk : PySem.W.takesIn K (.builtin "object.__class__") = some true)
   (hm : PySem.W.mroIn K C (.type "object") = some true) : C3 K H (.ref a) (.ref C)
end
end L2
namespace L2
open PySem PySem.Spec PyProof.Rows
structure Ji (k : Nat) (A : Around) : Prop where
 hd : A.handled = none
 dp : A.depth + 3 * k + 5 < recursionLimit
 un : A.units + 16 * k + 200 < cLine
 gd : A.guards = some []
theorem Ji.mono {j k : Nat} {A : Around} (r : Ji k A) (h : j ≤ k) : Ji j A := ⟨r.hd, by have := r.dp; omega, by have := r.un; omega, r.gd⟩
theorem Ji.deeper {k : Nat} {A : Around} (r : Ji (k + 1) A) (env : Env) : Ji k (A.deeper env) :=
 ⟨r.hd, by have := r.dp; show A.depth + 1 + 3 * k + 5 < _; omega, by have := r.un; show A.units + 3 + 16 * k + 200 < _; omega, r.gd⟩
theorem Ji.depth {k : Nat} {A : Around} (r : Ji k A) : A.depth < recursionLimit := by have := r.dp; omega
theorem Ji.units {k : Nat} {A : Around} (r : Ji k A) : A.units + 64 < cLine := by have := r.un; omega
def Zgn : TA := fun _ H Q => Q [] H
def ZdZ (ta : TE) (tr : TA) : TA := fun σ H Q => ta σ H fun x H1 => tr σ H1 fun xs H2 => Q (x :: xs) H2
section
variable {X : Cx} {e : Expr} {es : List Expr} {te : TE} {t : TA} {pos : Pos}
theorem Xc : PA X [] Zgn := fun _ _ _ _ H Q I h => Calls.spliced_nil ⟨[], H, I, .nil, h⟩
theorem JA (ha : PE X e te) (hr : PA X es t) (hs : autoParam (starEach (e :: es) X.env = (false, eval e X.env) :: starEach es X.env) zz3._auto_1) : PA X (e :: es) (ZdZ te t) := by
 intro pos pins s σ H Q I h
 rw [hs]
 show wpAny _ _ (spliced ((false, eval e X.env) :: backTo pos (starEach es X.env))) _ _ s
 refine Calls.spliced_cons (thn (ha pins s σ H _ I h) fun u s1 ⟨x, H1, I1, r1, q1⟩ => ?_)
 exact thn (hr pos pins s1 σ H1 _ I1 q1) fun us s2 ⟨xs, H2, I2, r2, q2⟩ => ⟨x :: xs, H2, I2, .cons r1 r2, q2⟩
def ZgR (t : TA) : TE := fun σ H Q => t σ H fun xs H1 => xs.length ≤ sizeLine ∧ ∀ p, H1 p = none → Q (.ref p) (upd H1 p (.tup xs))
def ZfX (t : TA) : TE := fun σ H Q => t σ H fun xs H1 => xs.length ≤ sizeLine ∧ ∀ p, H1 p = none → Q (.ref p) (upd H1 p (.lst xs))
theorem OM {x1} (h : PA X es t) : PE X (.Tuple es x1 pos) (ZgR t) := by
 intro pins s σ H Q I hq
 refine wpAny_Tuple_spliced (thn (h pos pins s σ H _ I hq) fun us s1 ⟨xs, H1, I1, r, z, q⟩ => ⟨by rw [← r.length]; exact z, ?_⟩)
 have hf : H1 s1.heap.objs.size = none := I1.hok.fresh (Nat.le_refl _)
 refine ⟨.ref s1.heap.objs.size, upd H1 s1.heap.objs.size (.tup xs), I1.laid (t' := s1.toks) (fun b u e => Heap.get?_push_of_some _ e) (Nat.le_refl _) ?_, rfl, q _ hf⟩
 exact ⟨z, us, r, ⟨_, Heap.get?_push_size _ rfl, rfl, _, rfl⟩⟩
theorem OK (h : PA X es t) : PE X (.List es pos) (ZfX t) := by
 intro pins s σ H Q I hq
 refine wpAny_List_spliced (thn (h pos pins s σ H _ I hq) fun us s1 ⟨xs, H1, I1, r, z, q⟩ => ⟨by rw [← r.length]; exact z, ?_⟩)
 have hf : H1 s1.heap.objs.size = none := I1.hok.fresh (Nat.le_refl _)
 refine ⟨.ref s1.heap.objs.size, upd H1 s1.heap.objs.size (.lst xs), I1.laid (t' := s1.toks) (fun b u e => Heap.get?_push_of_some _ e) (Nat.le_refl _) ?_, rfl, q _ hf⟩
 exact ⟨z, us, 0, r, Heap.get?_push_size _ rfl⟩
end
abbrev Sp := List V → Hp → VK → XK → Prop
abbrev CXT := List Env → Hp → Shared → XK → Value → Shared → Prop
structure Zdd (P : Program) (w : World) (K : PySem.W.Frag) (mg : Str → Option Value) (base : Heap) (A : Around) (outer : List Env) (s : Shared) (H : Hp) : Prop where
 frames : A.frames = some outer
 mod : Mod K mg base
 bs : ∀ b o, base.get? b = some o → s.heap.get? b = some o ∧ H b = none
 bsz : base.objs.size ≤ s.heap.objs.size
 Hc : s.heap.FunFrames base outer
 frf : ∀ b ∈ frs outer, H b = none
 hok : HOk P w H s.heap
 bare : AllBare s.gens
def CE (outer : List Env) (P : Program) (w : World) (H : Hp) (s : Shared) (Q : VK) (u : Value) (s' : Shared) : Prop :=
 ∃ v H', s'.os = s.os ∧ AllBare s'.gens ∧ Un (frs outer) [] H H' s.heap s'.heap ∧ HOk P w H' s'.heap ∧ RelV v u ∧ Q v H'
def CR (CX : CXT) (outer : List Env) (P : Program) (w : World) (H : Hp) (s : Shared) (Q : VK) (E : XK) (r : Result) (s' : Shared) : Prop :=
 match r with
 | .ok (.ret u) => CE outer P w H s Q u s'
 | .ok _ => False
 | .error e => CX outer H s E e s'
structure ZT (P : Program) (w : World) (K : PySem.W.Frag) (mg : Str → Option Value) (base : Heap) (CX : CXT) (k : Nat) (f : Addr) (fd : FuncData) (ps : List Str) (sp : Sp) : Prop where
 len : ∀ vs H Q E, sp vs H Q E → vs.length = ps.length
 run : ∀ (A : Around) (outer : List Env) (s : Shared) (H : Hp) (args : Args) (us : List Value) (vs : List V) (Q : VK) (E : XK), Ji k A → Zdd P w K mg base A outer s H → BindsTo s fd args (ps.zip us) → Vals vs us → sp vs H Q E →
  codeAny (model P w) A (.call (.ref f) args) (CR CX outer P w H s Q E) s
theorem ZT.imp {P : Program} {w : World} {K : PySem.W.Frag} {mg : Str → Option Value} {base : Heap} {CX : CXT} {k : Nat} {f : Addr} {fd : FuncData} {ps : List Str} {sp sp' : Sp} (F : ZT P w K mg base CX k f fd ps sp)
  (h : ∀ vs H Q E, sp' vs H Q E → sp vs H Q E) : ZT P w K mg base CX k f fd ps sp' :=
 ⟨fun vs H Q E q => F.len vs H Q E (h _ _ _ _ q), fun A outer s H args us vs Q E hr he hb hv hs => F.run A outer s H args us vs Q E hr he hb hv (h _ _ _ _ hs)⟩
section
variable {X : Cx} {pins : List (Addr × Obj)} {σ : St} {H : Hp} {s s' : Shared}
theorem Inv.Zgr (I : Inv X pins σ H s) : Zdd X.prog X.w X.K X.mg X.base X.A X.stack s H :=
 ⟨I.ok.frames, I.ok.mod, I.bs, Nat.le_trans I.ok.bsz I.sz, I.stack, I.Du, I.hok, I.bare⟩
theorem Inv.after {Q : VK} {u : Value} (I : Inv X pins σ H s) (h : CE X.stack X.prog X.w H s Q u s') : EP X pins σ Q u s' := by
 obtain ⟨v, H', os, bare, un, hok, r, q⟩ := h
 obtain ⟨hh, g, d, t, os'⟩ := s'
 obtain rfl : os' = s.os := os
 exact ⟨v, H', I.call (h' := hh) (g' := g) (d' := d) (t' := t) (ch := []) un hok bare (fun b z => absurd z (by simp)), r, q⟩
end
def Zef (sp : Sp) (dvs : List V) (E : XK) (t : TA) : TE := fun σ H Q => t σ H fun vs H1 => sp (vs ++ dvs) H1 Q E
def Zgl (C : Addr) (m : Str) (sp : Sp) (dvs : List V) (E : XK) (ta : TE) (t : TA) : TE := fun σ H Q => ta σ H fun x H1 => ∃ a dx fs, x = .ref a ∧ H1 a = some (.ins C dx fs) ∧ fs.lookup m = none ∧
 t σ H1 fun vs H2 => sp (x :: (vs ++ dvs)) H2 Q E
def ZgI (C : Addr) (sp : Sp) (dvs : List V) (E : XK) (t : TA) : TE := fun σ H Q => t σ H fun vs H1 => ∀ x dx, H1 x = none → H1 dx = none → dx ≠ x →
 sp (.ref x :: (vs ++ dvs)) (upd (upd H1 dx (.own x)) x (.ins C dx [])) (fun v H2 => v = .non ∧ Q (.ref x) H2) E
def Binds (K : PySem.W.Frag) (fd : FuncData) (ps : List Str) (ds : List Value) : Prop :=
 ∀ (s : Shared) (us : List Value), K.In s.heap → (us ++ ds).length = ps.length → BindsTo s fd ⟨us, []⟩ (ps.zip (us ++ ds))
theorem Binds.all {K : PySem.W.Frag} {fd : FuncData} {ps : List Str} (h : ∀ us : List Value, us.length = ps.length → bindArgs fd ⟨us, []⟩ = pure (ps.zip us)) : Binds K fd ps [] := fun s us _ hl => by
 rw [List.append_nil] at hl ⊢
 exact .of_eq (h us hl)
def Passes (CX : CXT) (X : Cx) (E : XK) : Prop := ∀ (pins : List (Addr × Obj)) (σ : St) (H : Hp) (s : Shared) (e : Value) (s' : Shared), Inv X pins σ H s → CX X.stack H s E e s' → X.xe e s'
section
variable {X : Cx} {CX : CXT} {k : Nat} {f C : Addr} {fd : FuncData} {ps : List Str} {sp : Sp} {dvs : List V} {ds : List Value} {E : XK} {x m : Str} {p pos apos : Pos} {e o : Expr} {es : List Expr} {ta : TE} {t : TA}
theorem TU {pins : List (Addr × Obj)} {σ : St} {H : Hp} {s : Shared} {Q : VK} {us : List Value} {vs : List V} (F : ZT X.prog X.w X.K X.mg X.base CX k f fd ps sp) (hr : Ji k X.A) (hb : Binds X.K fd ps ds) (hd : Vals dvs ds) (hx : Passes CX X E)
  (I : Inv X pins σ H s) (r : Vals vs us) (h : sp (vs ++ dvs) H Q E) : wpAny (model X.prog X.w) X.A (call (.ref f) us) (EP X pins σ Q) X.xe s := by
 have r2 : Vals (vs ++ dvs) (us ++ ds) := r.append hd
 have hl : (us ++ ds).length = ps.length := by rw [← r2.length]; exact F.len _ _ _ _ h
 refine wpAny_call (codeAny_mono (F.run X.A X.stack s H ⟨us, []⟩ (us ++ ds) (vs ++ dvs) Q E hr I.Zgr (hb s us I.kIn hl) r2 h) fun r s' hq => ?_)
 cases r with
 | error e => exact hx pins σ H s e s' I hq
 | ok fl =>
  cases fl with
  | ret u => exact I.after hq
  | next => exact False.elim hq
  | brk => exact False.elim hq
  | cont => exact False.elim hq
theorem Te (F : ZT X.prog X.w X.K X.mg X.base CX k f fd ps sp) (hr : Ji k X.A) (hg : Gl X x) (hm : X.mg x = some (.ref f)) (hk : PySem.W.keepIn X.K (.ref f) = true) (hb : Binds X.K fd ps ds) (hd : Vals dvs ds) (hx : Passes CX X E)
  (ha : PA X (e :: es) t) (hdb : autoParam ((x == ("__debug__" : Str)) = false) zz1._auto_1) (he : autoParam (starEach (e :: es) X.env = (false, eval e X.env) :: starEach es X.env) zz3._auto_1) (hpl : autoParam ((backTo pos (starEach es X.env)).any (·.1) = false) zz3._auto_1) :
  PE X (.Call (.Name x p) (e :: es) [] pos) (Zef sp dvs E t) := by
 intro pins s σ H Q I h
 refine wpAny_Call_Name_kw (Ta I hg hm ?_ hdb)
 refine PySem.W.callWith_K (h₀ := X.base) I.ok.mod.kin hk (thn (ha pos pins s σ H _ I h) fun us s1 ⟨vs, H1, I1, r, q⟩ => ⟨I1.kIn, ?_⟩) he hpl
 exact TU F hr hb hd hx I1 r q
structure Mk (K : PySem.W.Frag) (C f : Addr) : Prop where
 makes : PySem.W.makesIn K C = true
 init : PySem.W.findIn K (.ref C) "__init__" = some (some (.ref f))
 fn : PySem.W.isFn K (.ref f) = true
 kp : PySem.W.keepIn K (.ref C) = true
end
def PK (X : Cx) (kws : List Keyword) (t : TA) : Prop :=
 ∀ (pos : Pos) (pins : List (Addr × Obj)) (s : Shared) (σ : St) (H : Hp) (Q : List V → Hp → Prop), Inv X pins σ H s → t σ H Q → wpAny (model X.prog X.w) X.A (evalAll ((backToKw pos (keywordEach kws X.env)).map (·.2))) (AP X pins σ Q) X.xe s
section
variable {X : Cx} {CX : CXT} {k : Nat} {f C : Addr} {fd : FuncData} {ps ks : List Str} {sp : Sp} {E : XK} {x m : Str} {p pos apos kpos : Pos} {e o : Expr} {es : List Expr} {kws : List Keyword} {te ta : TE} {t tk : TA} {nm : Option Str}
structure Zff (K : PySem.W.Frag) (fd : FuncData) (ps ks : List Str) (g : List Value → List Value → List Value) (gV : List V → List V → List V) : Prop where
 to : ∀ (s : Shared) (us ws : List Value), K.In s.heap → (g us ws).length = ps.length → BindsTo s fd ⟨us, ks.zip ws⟩ (ps.zip (g us ws))
 rel : ∀ {vs : List V} {us : List Value} {zs : List V} {ws : List Value}, Vals vs us → Vals zs ws → Vals (gV vs zs) (g us ws)
def Zfn (sp : Sp) (gV : List V → List V → List V) (E : XK) (t tk : TA) : TE := fun σ H Q => t σ H fun vs H1 => tk σ H1 fun zs H2 => sp (gV vs zs) H2 Q E
variable {g : List Value → List Value → List Value} {gV : List V → List V → List V}
end
structure Zt (N P : List Str) (sc : Scope) : Prop where
 kind : sc.kind = .function
 co : sc.isCoroutine = false
 gen : sc.isGenerator = false
 nd : N.Nodup
 pre : N.take P.length = P
 par : ∀ x ∈ P, sc.names.lookup x = some .local ∨ sc.names.lookup x = some .cell
 nofree : ∀ y ∈ sc.names, y.2 ≠ .free
theorem Wc {kindOf : Str → Option NameKind} {x : Str} : ∀ {binds : List (Str × Value)} {m : Str → Option Value}, (∀ v, (x, v) ∉ binds) → bindL kindOf binds m x = m x
 | [], _, _ => rfl
 | (n, v) :: r, m, h => by
  unfold bindL
  rw [Wc fun w hw => h w (List.mem_cons_of_mem _ hw)]
  split
  ·have : x ≠ n := by rintro rfl; exact h v List.mem_cons_self
   simp [this]
  ·rfl
theorem WQ {kindOf : Str → Option NameKind} {x : Str} : ∀ {binds : List (Str × Value)} {m : Str → Option Value}, (∀ v, (x, v) ∉ binds) → bindC kindOf binds m x = m x
 | [], _, _ => rfl
 | (n, v) :: r, m, h => by
  unfold bindC
  rw [WQ fun w hw => h w (List.mem_cons_of_mem _ hw)]
  split
  ·rfl
  ·have : x ≠ n := by rintro rfl; exact h v List.mem_cons_self
   simp [this]
theorem WA {kindOf : Str → Option NameKind} {x : Str} {v : Value} : ∀ {P : List Str} {vs : List Value} {i : Nat} {m : Str → Option Value}, P.Nodup → P[i]? = some x → vs[i]? = some v → kindOf x = some .local →
  bindL kindOf (P.zip vs) m x = some v
 | [], _, _, _, _, h, _, _ => by simp at h
 | _ :: _, [], _, _, _, _, h, _ => by simp at h
 | p :: P, w :: vs, 0, m, nd, h1, h2, hk => by
  simp at h1 h2; subst h1; subst h2
  show bindL kindOf ((p, w) :: P.zip vs) m p = _
  unfold bindL
  rw [Wc fun v hv => (List.nodup_cons.mp nd).1 (List.of_mem_zip hv).1, if_pos hk]
  simp
 | p :: P, w :: vs, i + 1, m, nd, h1, h2, hk => by
  show bindL kindOf ((p, w) :: P.zip vs) m x = _
  unfold bindL
  exact WA (i := i) (List.nodup_cons.mp nd).2 (by simpa using h1) (by simpa using h2) hk
theorem WG {kindOf : Str → Option NameKind} {x : Str} {v : Value} : ∀ {P : List Str} {vs : List Value} {i : Nat} {m : Str → Option Value}, P.Nodup → P[i]? = some x → vs[i]? = some v → kindOf x ≠ some .local →
  bindC kindOf (P.zip vs) m x = some v
 | [], _, _, _, _, h, _, _ => by simp at h
 | _ :: _, [], _, _, _, _, h, _ => by simp at h
 | p :: P, w :: vs, 0, m, nd, h1, h2, hk => by
  simp at h1 h2; subst h1; subst h2
  show bindC kindOf ((p, w) :: P.zip vs) m p = _
  unfold bindC
  rw [WQ fun v hv => (List.nodup_cons.mp nd).1 (List.of_mem_zip hv).1, if_neg hk]
  simp
 | p :: P, w :: vs, i + 1, m, nd, h1, h2, hk => by
  show bindC kindOf ((p, w) :: P.zip vs) m x = _
  unfold bindC
  exact WG (i := i) (List.nodup_cons.mp nd).2 (by simpa using h1) (by simpa using h2) hk
noncomputable def start (N : List Str) (vs : List V) : St := vs.map some ++ List.replicate (N.length - vs.length) none
noncomputable def Ob (CX : CXT) (P : Program) (w : World) (K : PySem.W.Frag) (mg : Str → Option Value) (base : Heap) (N : List Str) (qual : Str) (scope : Scope) (f : Addr) (cd : Value) (A : Around) (outer : List Env) (s : Shared) (H : Hp) (E : XK) : Cx where
 prog := P
 w := w
 K := K
 mg := mg
 base := base
 A := A.deeper (envOfC qual scope s.heap.objs.size f cd)
 N := N
 s₀ := s
 H₀ := H
 env := envOfC qual scope s.heap.objs.size f cd
 outer := outer
 stack := envOfC qual scope s.heap.objs.size f cd :: outer
 ex := []
 calm := true
 fn := fun _ => true
 pn := []
 xe := fun e s' => wpAny (model P w) (A.deeper (envOfC qual scope s.heap.objs.size f cd)) (leaving (envOfC qual scope s.heap.objs.size f cd) e) (fun _ s'' => CX outer H s E e s'') (fun e' s'' => CX outer H s E e' s'') s'
theorem Bm {sc : Scope} {n : Nat} {x : Str} (h : sc.names.lookup x = some .cell) : ∃ c, (cellsFrom n sc.names []).lookup x = some c := by
 have q := PySem.W.cellsFrom_some sc.names n [] (.inl h)
 exact Option.isSome_iff_exists.mp q
theorem CW {CX : CXT} {P : Program} {w : World} {K : PySem.W.Frag} {mg : Str → Option Value} {base : Heap} {N ps : List Str} {qual : Str} {scope : Scope} {f : Addr} {cd : Value} {A : Around} {outer : List Env} {s s1 : Shared} {H : Hp} {E : XK} {us : List Value} {vs : List V}
  (S : Zt N ps scope) (hd : A.handled = none) (e0 : Zdd P w K mg base A outer s H) (hl : vs.length = ps.length) (r : Vals vs us)
  (x : InCallC s s.heap.objs.size (bindL (envOfC qual scope s.heap.objs.size f cd).kindOf (ps.zip us) fun _ => none) (cellsFrom (s.heap.objs.size + 1) scope.names []) (bindC (envOfC qual scope s.heap.objs.size f cd).kindOf (ps.zip us) fun _ => none) s1) :
  Inv (Ob CX P w K mg base N qual scope f cd A outer s H E) [] (start N vs) H s1 := by
 have hpl : ps.length ≤ N.length := by have := congrArg List.length S.pre; rw [List.length_take] at this; omega
 obtain ⟨h1, tk, rfl, hk⟩ := x.done
 have noA : ∀ b : Addr, b ∉ (Ob CX P w K mg base N qual scope f cd A outer s H E).ex := fun b z => absurd (show b ∈ ([] : List Addr) from z) (by simp)
 refine ⟨⟨e0.mod, S.kind, rfl, rfl, Nat.le_refl _, fun y z c h1 h2 => ?_, fun y hy => ?_, fun y c _ h => ?_, fun _ => hd, Around.frames_deeper e0.frames, .inr ⟨rfl, rfl⟩, fun b z => absurd z (noA b), e0.bs, e0.bsz, fun b _ _ => noA b, fun b z => absurd z (noA b), e0.Hc, e0.frf⟩,
  rfl, e0.bare, Un.kept hk, ⟨_, x.toInCall.ns, fun i y v h1 h2 h3 => ?_⟩, fun y c h => ⟨_, x.cell y c h⟩, e0.hok.fresh (Nat.le_refl _), fun y c h => ?_, fun p hp => absurd (show p ∈ ([] : List (Addr × Obj)) from hp) (by simp), e0.hok.kept hk, ?_⟩
 ·exact name_of_addr x.apart (PySem.mem_of_lookup h1) (PySem.mem_of_lookup h2)
 ·have hy : scope.names.lookup y = some .cell ∨ scope.names.lookup y = some .free := hy
  rcases hy with hy | hy
  ·exact Bm hy
  ·exact absurd rfl (S.nofree _ (PySem.mem_of_lookup hy))
 ·exact Nat.le_of_lt (x.above y c (PySem.mem_of_lookup h))
 ·have hi : i < vs.length := by
   unfold start at h2
   by_cases hi : i < vs.length
   ·exact hi
   ·rw [List.getElem?_append_right (by simpa using hi)] at h2
    rw [List.getElem?_replicate] at h2
    split at h2 <;> cases h2
  have ha : vs[i]? = some v := by
   unfold start at h2
   rw [List.getElem?_append_left (by simpa using hi), List.getElem?_map] at h2
   cases e : vs[i]? with
   | none => rw [e] at h2; cases h2
   | some a => rw [e] at h2; cases h2; rfl
  obtain ⟨u, hu, rv⟩ := r.get ha
  have hp : ps[i]? = some y := by
   rw [← S.pre, List.getElem?_take_of_lt (by omega)]; exact h1
  have ndP : ps.Nodup := by rw [← S.pre]; exact S.nd.sublist (List.take_sublist _ _)
  refine ⟨u, rv, ?_⟩
  rcases S.par y (List.mem_of_getElem? hp) with k | k
  ·exact .inl ⟨k, WA ndP hp hu k⟩
  ·obtain ⟨c, e⟩ := Bm (n := s.heap.objs.size + 1) k
   refine .inr ⟨.inl k, c, e, ?_⟩
   have q := x.cell y c e
   rw [WG ndP hp hu (by show scope.names.lookup y ≠ _; rw [k]; decide)] at q
   exact q
 ·exact e0.hok.fresh (Nat.le_of_lt (x.above y c (PySem.mem_of_lookup h)))
 ·unfold start
  show _ = N.length
  rw [List.length_append, List.length_map, List.length_replicate]
  omega
theorem ZdK {CX : CXT} {P : Program} {w : World} {K : PySem.W.Frag} {mg : Str → Option Value} {base : Heap} {k : Nat} {f : Addr} {name qual : Str} {params : Arguments} {body : List Stmt} {scope : Scope} {dV kV doc pm cdv ct oc : Value} {an od : Option Addr}
  {osl : Array (Option Value)} {N ps : List Str} {sp : Sp} (lk : K.lookup f = some ⟨oc, od, .func (PySem.W.fnOf name qual params body scope dV kV doc pm an cdv ct), osl⟩) (hcd : PySem.W.codeIn K cdv qual = true) (S : Zt N ps scope)
  (len : ∀ vs H Q E, sp vs H Q E → vs.length = ps.length)
  (hbody : ∀ (A : Around) (outer : List Env) (s : Shared) (H : Hp) (vs : List V) (Q : VK) (E : XK), Ji k (A.deeper (envOfC qual scope s.heap.objs.size f cdv)) → sp vs H Q E →
   ∃ t, PSs (Ob CX P w K mg base N qual scope f cdv A outer s H E) body t ∧ t { nx := fun _ H' => Q .non H', rt := Q } (start N vs) H) :
  ZT P w K mg base CX (k + 1) f (PySem.W.fnOf name qual params body scope dV kV doc pm an cdv ct) ps sp := by
 refine ⟨len, fun A outer s H args us vs Q E hr e0 hb r hsp => ?_⟩
 have hl := len _ _ _ _ hsp
 have KX : K.In s.heap := e0.mod.kin.keeps fun b o e => (e0.bs b o e).1
 have lim : s.heap.NoLimit := e0.mod.nolimit.keeps fun b o e => (e0.bs b o e).1
 have hkind : ∀ y ∈ ps.zip us, scope.names.lookup y.1 = some .local ∨ (scope.names.lookup y.1 = some .cell ∧ ((cellsFrom (s.heap.objs.size + 1) scope.names []).lookup y.1).isSome = true) := fun ⟨n, v⟩ hy => by
  rcases S.par n (List.of_mem_zip hy).1 with q | q
  ·exact .inl q
  ·exact .inr ⟨q, PySem.W.cellsFrom_some _ _ _ (.inl q)⟩
 refine codeAny_call_function hr.depth (KX _ _ lk) rfl S.co S.gen rfl (PySem.W.codeRec_of KX hcd) (hb _ _ _ _ ?_)
 refine wpAny_newFunctionEnv_cells S.kind hkind fun env he s1 x => ?_
 subst he
 refine ⟨lim.keeps x.toInCall.keep, codeAny_func ?_⟩
 obtain ⟨t, ht, hq⟩ := hbody A outer s H vs Q E (hr.deeper _) hsp
 have I : Inv (Ob CX P w K mg base N qual scope f cdv A outer s H E) [] (start N vs) H s1 := CW S hr.hd e0 hl r x
 refine wpAny_mono (ht [] s1 (start N vs) H _ I hq) (fun fl s' hs => ?_) fun e s' hs => hs
 have fin : ∀ {σ' : St} {H' : Hp} {v : V} {u : Value}, Inv (Ob CX P w K mg base N qual scope f cdv A outer s H E) [] σ' H' s' → RelV v u → Q v H' → CE outer P w H s Q u s' :=
  fun {σ' H' v u} J rv q => ⟨v, H', J.os, J.bare, J.base, J.hok, rv, q⟩
 cases fl with
 | ret u =>
  obtain ⟨v, σ', H', J, rv, q⟩ := hs
  exact fin J rv q
 | next =>
  obtain ⟨σ', H', J, q⟩ := hs
  exact fin (v := V.non) (u := Value.none) J rfl q
 | brk =>
  obtain ⟨_, _, _, q⟩ := hs
  exact False.elim q
 | cont =>
  obtain ⟨_, _, _, q⟩ := hs
  exact False.elim q
end L2
namespace L2
open PySem PySem.Spec PyProof.Rows
section
variable {X : Cx} {x : Str} {p pos : Pos} {e : Expr} {es : List Expr} {t : TA} {id T : String} {r : List V → Hp → VK → Prop}
def tCB (r : List V → Hp → VK → Prop) (t : TA) : TE := fun σ H Q => t σ H fun vs H1 => r vs H1 Q
theorem Bp (hc : QF X (.builtin id) r) (hg : Gl X x) (hm : X.mg x = none) (hv : bootBuiltins x = some (.builtin id)) (ha : PA X (e :: es) t) (hn : autoParam (x ≠ "__name__") zz1._auto_1) (hdb : autoParam ((x == ("__debug__" : Str)) = false) zz1._auto_1)
  (he : autoParam (starEach (e :: es) X.env = (false, eval e X.env) :: starEach es X.env) zz3._auto_1) (hpl : autoParam ((backTo pos (starEach es X.env)).any (·.1) = false) zz3._auto_1) : PE X (.Call (.Name x p) (e :: es) [] pos) (tCB r t) := by
 intro pins s σ H Q I h
 refine wpAny_Call_Name_kw (Xk I hg hm hv ?_ hn hdb)
 exact PyProof.Rows.callWith_builtin1 (thn (ha pos pins s σ H _ I h) fun us s1 ⟨vs, H1, I1, r1, q1⟩ => hc pins s1 σ H1 vs us Q I1 r1 q1) he hpl
theorem EE (hc : QF X (.type T) r) (hg : Gl X x) (hm : X.mg x = none) (hv : bootBuiltins x = some (.type T)) (ha : PA X (e :: es) t) (hn : autoParam (x ≠ "__name__") zz1._auto_1) (hdb : autoParam ((x == ("__debug__" : Str)) = false) zz1._auto_1)
  (he : autoParam (starEach (e :: es) X.env = (false, eval e X.env) :: starEach es X.env) zz3._auto_1) (hpl : autoParam ((backTo pos (starEach es X.env)).any (·.1) = false) zz3._auto_1) : PE X (.Call (.Name x p) (e :: es) [] pos) (tCB r t) := by
 intro pins s σ H Q I h
 refine wpAny_Call_Name_kw (Xk I hg hm hv ?_ hn hdb)
 exact PyProof.Rows.callWith_type1 (thn (ha pos pins s σ H _ I h) fun us s1 ⟨vs, H1, I1, r1, q1⟩ => hc pins s1 σ H1 vs us Q I1 r1 q1) he hpl
end
end L2
namespace HT
open PySem PyProof.Rows
noncomputable def lexLt : List Int → List Int → Bool
 | [], [] => false
 | [], _ :: _ => true
 | _ :: _, [] => false
 | x :: xs, y :: ys => if x = y then lexLt xs ys else decide (x < y)
section
open PySem.SeqAt
open PySem.AutoSeq1 (wpAny_loadPart')
open PySem.MeetsSeq PySem.MeetsSeq2 PySem.MeetsSeq3
end
section
variable {prog : Program} {w : World} {A : Around} {E : Value → Shared → Prop} {s : Shared}
noncomputable def sIx (n d : Nat) : Option Int → Nat
 | none => d
 | some v => if v < 0 then (v + (n : Int)).toNat else min v.toNat n
theorem X2 (n d : Nat) : sIx n d none = d := rfl
theorem HE (n d k : Nat) : sIx n d (some (k : Int)) = min k n := by
 show (if (k : Int) < 0 then ((k : Int) + (n : Int)).toNat else min (k : Int).toNat n) = min k n
 rw [if_neg (by omega), Int.toNat_natCast]
theorem TY (n d : Nat) (hd : d ≤ n) (o : Option Int) : sIx n d o ≤ n := by
 cases o with
 | none => exact hd
 | some v =>
  show (if v < 0 then (v + (n : Int)).toNat else min v.toNat n) ≤ n
  by_cases hv : v < 0
  ·rw [if_pos hv]; omega
  ·rw [if_neg hv]; exact Nat.min_le_right _ _
theorem EG (v : Int) (n d : Nat) : (if v < 0 then max (v + (n : Int)) 0 else min v (n : Int)) = ((sIx n d (some v) : Nat) : Int) := by
 show (if v < 0 then max (v + (n : Int)) 0 else min v (n : Int)) = (((if v < 0 then (v + (n : Int)).toNat else min v.toNat n) : Nat) : Int)
 by_cases hv : v < 0
 ·simp only [if_pos hv]; omega
 ·simp only [if_neg hv]; omega
theorem Cj (lo hi : Option Int) (n : Nat) : Builtin.Slice.sliceAdjust lo hi 1 (n : Int) = (((sIx n 0 lo : Nat) : Int), ((sIx n n hi : Nat) : Int)) := by
 have h1 : ¬ ((1 : Int) < 0) := by omega
 unfold Builtin.Slice.sliceAdjust
 simp only [h1, if_false]
 refine Prod.ext ?_ ?_
 ·cases lo with
  | none => rfl
  | some v => exact EG v n 0
 ·cases hi with
  | none => rfl
  | some v => exact EG v n n
theorem Ce (i j : Nat) : Builtin.Slice.slicePlaces (i : Int) (j : Int) 1 = j - i := by
 unfold Builtin.Slice.slicePlaces
 have h1 : (1 : Int) > 0 := by omega
 simp only [h1, if_true, Int.ediv_one]
 split <;> omega
theorem Xn {v : Value} {o : Option Int} {Q : Option Int → Shared → Prop} (p : IsPart v o) (h : Q o s) : wpAny (model prog w) A (Builtin.Slice.slicePartIndex v) Q E s := by
 cases p with
 | none => exact slicePart_none h
 | int i t => exact slicePart_int h
theorem VW {sl : Addr} {vl vu : Value} {lo hi : Option Int} {n : Nat} {Q : Int × Int × Nat → Shared → Prop} (hs : s.heap.IsSliceOf sl vl vu .none) (pl : IsPart vl lo) (pu : IsPart vu hi)
  (h : Q (((sIx n 0 lo : Nat) : Int), 1, sIx n n hi - sIx n 0 lo) s) : wpAny (model prog w) A (Builtin.Slice.sliceApplied (.ref sl) (pure (n : Int))) Q E s := by
 obtain ⟨os, hos, hcs, hds⟩ := id hs
 unfold Builtin.Slice.sliceApplied Builtin.Slice.sliceFields
 refine wpAny_bind (wpAny_bind (wpAny_field hos hds (x := vl) rfl (wpAny_bind (wpAny_field hos hds (x := vu) rfl (wpAny_bind (wpAny_field hos hds (x := .none) rfl (wpAny_pure ?_)))))))
 refine wpAny_bind (slicePart_none ?_)
 show wpAny _ _ (if ((1 : Int) == 0) = true then _ else _) _ _ s
 rw [if_neg (by decide)]
 refine wpAny_bind (Xn pl (wpAny_bind (Xn pu (wpAny_bind (wpAny_pure ?_)))))
 show wpAny _ _ (match Builtin.Slice.sliceAdjust lo hi 1 (n : Int) with | (lo, hi) => pure (lo, (1 : Int), Builtin.Slice.slicePlaces lo hi 1)) _ _ s
 rw [Cj lo hi n]
 show wpAny _ _ (pure (((sIx n 0 lo : Nat) : Int), (1 : Int), Builtin.Slice.slicePlaces ((sIx n 0 lo : Nat) : Int) ((sIx n n hi : Nat) : Int) 1)) _ _ s
 rw [Ce]
 exact wpAny_pure h
theorem Nl (xs : Array Value) (i k : Nat) : ((List.range k).filterMap fun (m : Nat) => xs[((i : Int) + (m : Int) * 1).toNat]?).toArray = ((xs.toList.drop i).take k).toArray := by
 have e : (fun (m : Nat) => xs[((i : Int) + (m : Int) * 1).toNat]?) = fun m => xs[i + m]? := by
  funext m
  have : ((i : Int) + (m : Int) * 1).toNat = i + m := by omega
  rw [this]
 rw [e]
 have := pick_run xs i k
 rw [List.filterMap_map] at this
 have e2 : ((fun x => xs[x]?) ∘ fun x => i + x) = fun m => xs[i + m]? := rfl
 rw [e2] at this
 rw [this]
theorem VG {t sl : Addr} {items : Array Value} {vl vu : Value} {lo hi : Option Int} {Q : Value → Shared → Prop} (ht : IsTup s.heap t items) (hs : s.heap.IsSliceOf sl vl vu .none) (pl : IsPart vl lo) (pu : IsPart vu hi)
  (hw : ¬ (sIx items.size 0 lo = 0 ∧ sIx items.size items.size hi = items.size))
  (h : Q (.ref s.heap.objs.size) { s with heap := s.heap.push { cls := .type "tuple", data := .seq ((items.toList.drop (sIx items.size 0 lo)).take (sIx items.size items.size hi - sIx items.size 0 lo)).toArray } })
  (hsz : items.size ≤ sizeLine) : wpAny (model prog w) A (getItem (.ref t) (.ref sl)) Q E s := by
 have htake : sizeOk (.seq ((items.toList.drop (sIx items.size 0 lo)).take (sIx items.size items.size hi - sIx items.size 0 lo)).toArray) := by
  show ((items.toList.drop (sIx items.size 0 lo)).take (sIx items.size items.size hi - sIx items.size 0 lo)).toArray.size ≤ sizeLine
  rw [List.size_toArray, List.length_take, List.length_drop, Array.length_toList]
  omega
 have hj : sIx items.size items.size hi ≤ items.size := TY _ _ (Nat.le_refl _) hi
 obtain ⟨os, hos, hcs, hds⟩ := id hs
 have hTs : s.TypeIs (.ref sl) "slice" := ⟨os, hos, hcs⟩
 unfold getItem
 try with_reducible refine wpAny_holding ?_
 first | refine wpAny_bind (wpAny_pure ?_) | skip
 refine wpAny_bind (wpAny_sequenceKey ht.typeIs (by decide) ?_)
 refine wpAny_bind (wpAny_callSpecial?_slot (name := Str.ofString "__getitem__") ht.typeIs PyProof.Rows.slot_tuple_getitem
  (wpAny_call_entry PyProof.Rows.slot_tuple_getitem ht.typeIs entry_tuple_getitem ?_ (args_tuple_getitem _ _)))
 show wpAny _ _ (Builtin.Tuple.tupleItemsOf (.ref t) >>= _) _ _ s
 refine wpAny_bind (tupleItemsOf_ ht ?_)
 refine wpAny_bind (wpAny_typeOf hTs ?_)
 rw [if_pos (by decide)]
 refine wpAny_bind (VW hs pl pu ?_)
 have hno : ¬ ((((sIx items.size 0 lo : Nat) : Int) == 0 && (1 : Int) == 1 && (sIx items.size items.size hi - sIx items.size 0 lo) == items.size) = true) := by
  intro q
  rw [Bool.and_eq_true, Bool.and_eq_true] at q
  have q1 : ((sIx items.size 0 lo : Nat) : Int) = 0 := eq_of_beq q.1.1
  have q2 : sIx items.size items.size hi - sIx items.size 0 lo = items.size := eq_of_beq q.2
  exact hw ⟨by omega, by omega⟩
 show wpAny _ _ (if (((sIx items.size 0 lo : Nat) : Int) == 0 && (1 : Int) == 1 && (sIx items.size items.size hi - sIx items.size 0 lo) == items.size) = true then _ else _) _ _ s
 rw [if_neg hno, Nl]
 first
  | exact wpAny_bind (m := Builtin.Tuple.tupleExact _) (wpAny_newObj_type (wpAny_pure ⟨_, rfl, wpAny_pure h⟩) htake)
  | exact wpAny_bind (m := Builtin.Tuple.tupleExact _) (wpAny_newObj_type (wpAny_bind (wpAny_pure (wpAny_pure ⟨_, rfl, wpAny_pure h⟩))) htake)
  | exact wpAny_bind (wpAny_bind (m := Builtin.Tuple.tupleExact _) (wpAny_newObj_type (wpAny_pure (wpAny_pure ⟨_, rfl, wpAny_pure h⟩)) htake))
  | exact wpAny_bind (wpAny_bind (m := Builtin.Tuple.tupleExact _) (wpAny_newObj_type (wpAny_pure ⟨_, rfl, wpAny_pure h⟩) htake))
end
end HT
namespace L2
open PySem PySem.Spec PyProof.Rows
abbrev TO := St → Hp → (Option Int → Hp → Prop) → Prop
def PO (X : Cx) (e : Option Expr) (t : TO) : Prop :=
 ∀ (pins : List (Addr × Obj)) (s : Shared) (σ : St) (H : Hp) (Q : Option Int → Hp → Prop), Inv X pins σ H s → t σ H Q →
  wpAny (model X.prog X.w) X.A (evalPart e X.env) (fun u s' => ∃ o H', Inv X pins σ H' s' ∧ IsPart u o ∧ Q o H') X.xe s
def Pg : TO := fun _ H Q => Q none H
def ZeG (t : TE) : TO := fun σ H Q => t σ H fun x H1 => ∃ i, x = .int i ∧ Q (some i) H1
theorem intsAre_of {ns : List Int} : ∀ {us : List Value}, Vals (ns.map V.int) us → IntsAre us ns := by
 induction ns with
 | nil => intro us r; rw [List.map_nil] at r; cases r; exact .nil
 | cons n ns ih =>
  intro us r
  rw [List.map_cons] at r
  cases r with
  | cons r1 r2 =>
   obtain ⟨t, e⟩ := r1
   subst e
   exact .cons n t (ih r2)
section
variable {X : Cx} {e : Expr} {te : TE} {lo hi : Option Expr} {tl th : TO} {pos p2 : Pos}
theorem RS : PO X none Pg := by
 intro pins s σ H Q I h
 rw [evalPart_none]
 exact wpAny_pure ⟨none, H, I, .none, h⟩
theorem RV (h : PE X e te) : PO X (some e) (ZeG te) := by
 intro pins s σ H Q I hw
 rw [evalPart_some]
 refine thn (h pins s σ H _ I hw) fun u s1 ⟨x, H1, I1, r1, q1⟩ => ?_
 obtain ⟨i, rfl, q⟩ := q1
 obtain ⟨t, rfl⟩ := r1
 exact ⟨some i, H1, I1, .int i t, q⟩
def SlR (X : Cx) (r : V → Option Int → Option Int → Hp → VK → Prop) : Prop :=
 ∀ (pins : List (Addr × Obj)) (s : Shared) (σ : St) (H : Hp) (x : V) (v vl vu : Value) (lo hi : Option Int) (sl : Addr) (Q : VK), Inv X pins σ H s → RelV x v → s.heap.IsSliceOf sl vl vu .none → IsPart vl lo → IsPart vu hi → r x lo hi H Q →
  ∃ T id, typeLookup (.type T) "__getitem__" = pure (some (.builtin id)) ∧ s.TypeIs v T ∧ wpAny (model X.prog X.w) X.A (getItem v (.ref sl)) (EP X pins σ Q) X.xe s
def tSl (r : V → Option Int → Option Int → Hp → VK → Prop) (te : TE) (tl th : TO) : TE := fun σ H Q => te σ H fun x H1 => tl σ H1 fun l H2 => th σ H2 fun u H3 => r x l u H3 Q
theorem BA {r : V → Option Int → Option Int → Hp → VK → Prop} (hr : SlR X r) (he : PE X e te) (hl : PO X lo tl) (hu : PO X hi th) : PE X (.Subscript e (.Slice lo hi none p2) pos) (tSl r te tl th) := by
 intro pins s σ H Q I h
 refine Subscript_ (thn (he pins s σ H _ I h) fun v s1 ⟨x, H1, I1, r1, q1⟩ => ?_)
 refine wpAny_Slice (thn (hl pins s1 σ H1 _ I1 q1) fun vl s2 ⟨l, H2, I2, pl, q2⟩ => thn (hu pins s2 σ H2 _ I2 q2) fun vu s3 ⟨u, H3, I3, pu, q3⟩ => ?_)
 rw [evalPart_none]
 refine wpAny_pure ?_
 have I4 : Inv X pins σ H3 { s3 with heap := s3.heap.push { cls := .type "slice", data := .fields #[vl, vu, .none] } } := I3.kept (t' := s3.toks) fun b ob q => Heap.get?_push_of_some _ q
 obtain ⟨T, id, hT, ht, hg⟩ := hr pins { s3 with heap := s3.heap.push { cls := .type "slice", data := .fields #[vl, vu, .none] } } σ H3 x v vl vu l u s3.heap.objs.size Q I4 r1 (Heap.IsSliceOf.new ..) pl pu q3
 show wpAny (model X.prog X.w) X.A (subscriptTail e (.Slice lo hi none p2) v (.ref s3.heap.objs.size)) (EP X pins σ Q) X.xe { s3 with heap := s3.heap.push { cls := .type "slice", data := .fields #[vl, vu, .none] } }
 exact tail_any (ops := [.ref s3.heap.objs.size, v]) ht hT hg (by with_unfolding_all rfl)
noncomputable def N3 (xs : List V) (lo hi : Option Int) : List V := (xs.drop (HT.sIx xs.length 0 lo)).take (HT.sIx xs.length xs.length hi - HT.sIx xs.length 0 lo)
theorem YQ (xs : List V) (lo hi : Option Int) : (N3 xs lo hi).length ≤ xs.length := by
 unfold N3
 rw [List.length_take, List.length_drop]
 omega
def Zgv (K : PySem.W.Frag) : V → Option Int → Option Int → Hp → VK → Prop := fun x lo hi H Q => ∃ a xs, x = .ref a ∧ SqT K H a xs ∧
 ¬ (HT.sIx xs.length 0 lo = 0 ∧ HT.sIx xs.length xs.length hi = xs.length) ∧ ∀ p, H p = none → Q (.ref p) (upd H p (.tup (N3 xs lo hi)))
theorem T5 : SlR X (Zgv X.K) := by
 intro pins s σ H x v vl vu lo hi sl Q I rx hs pl pu h
 obtain ⟨a, xs, rfl, hx, hw, q⟩ := h
 cases rx
 obtain ⟨its, r, ht, hz⟩ := I.tuple hx
 have hlen : its.toArray.size = xs.length := by rw [List.size_toArray]; exact r.length.symm
 refine ⟨"tuple", _, PyProof.Rows.slot_tuple_getitem.lookup, ht.typeIs, ?_⟩
 refine HT.VG ht hs pl pu (by rw [hlen]; exact hw) ?_ (by rw [hlen]; exact hz)
 rw [hlen]
 refine ⟨.ref s.heap.objs.size, _, I.laid (t' := s.toks) (o := .tup (N3 xs lo hi)) (fun b ob q => Heap.get?_push_of_some _ q) (Nat.le_refl _) ?_, rfl, q _ (I.hok.fresh (Nat.le_refl _))⟩
 exact ⟨Nat.le_trans (YQ xs lo hi) hz, _, (r.drop (HT.sIx xs.length 0 lo)).take (HT.sIx xs.length xs.length hi - HT.sIx xs.length 0 lo), IsTup.new _ _⟩
def Zhb (K : PySem.W.Frag) : R2 := fun x y H Q => ∃ a b ns ms, x = .ref a ∧ y = .ref b ∧ SqT K H a (ns.map V.int) ∧ SqT K H b (ms.map V.int) ∧ Q (.bl (HT.lexLt ns ms)) H
def Zge (K : PySem.W.Frag) : R2 := fun x y H Q => ∃ a b xs ys, x = .ref a ∧ y = .ref b ∧ SqT K H a xs ∧ SqT K H b ys ∧ xs ≠ [] ∧ xs.length + ys.length ≤ sizeLine ∧
 (ys = [] → Q (.ref a) H) ∧ (ys ≠ [] → ∀ p, H p = none → Q (.ref p) (upd H p (.tup (xs ++ ys))))
end
end L2
namespace L2
open PySem PySem.Spec PyProof.Rows
noncomputable def ixN (n : Nat) (i : Int) : Option Nat := if 0 ≤ i then (if i < n then some i.toNat else none) else if -(n : Int) ≤ i then some (i + n).toNat else none
noncomputable def atI {α : Type} (xs : List α) (i : Int) : Option α := (ixN xs.length i).bind fun j => xs[j]?
theorem C6 {n : Nat} {i : Int} {j : Nat} (h : ixN n i = some j) : seqIndex? i n = some j ∧ j < n ∧ -(n : Int) ≤ i ∧ i < n := by
 unfold ixN at h
 by_cases h0 : 0 ≤ i
 ·rw [if_pos h0] at h
  by_cases h1 : i < n
  ·rw [if_pos h1] at h
   have e : i.toNat = j := Option.some.inj h
   exact ⟨by rw [seqIndex_of h0 h1, e], by omega, by omega, h1⟩
  ·rw [if_neg h1] at h; cases h
 ·rw [if_neg h0] at h
  by_cases h1 : -(n : Int) ≤ i
  ·rw [if_pos h1] at h
   have e : (i + n).toNat = j := Option.some.inj h
   exact ⟨by rw [seqIndex_neg (by omega) h1, e], by omega, h1, by omega⟩
  ·rw [if_neg h1] at h; cases h
theorem Uz {α : Type} {xs : List α} {i : Int} {v : α} (h : atI xs i = some v) : ∃ j, seqIndex? i xs.length = some j ∧ xs[j]? = some v ∧ j < xs.length ∧ -(xs.length : Int) ≤ i ∧ i < xs.length := by
 unfold atI at h
 cases e : ixN xs.length i with
 | none => rw [e] at h; cases h
 | some j =>
  rw [e] at h
  obtain ⟨h1, h2, h3, h4⟩ := C6 e
  exact ⟨j, h1, h, h2, h3, h4⟩
theorem J4 {α : Type} {xs : List α} {j : Nat} {v : α} (h : xs[j]? = some v) : atI xs (j : Int) = some v := by
 have hj : j < xs.length := (List.getElem?_eq_some_iff.mp h).1
 have e : ixN xs.length (j : Int) = some j := by
  unfold ixN
  rw [if_pos (by omega), if_pos (by omega)]; simp
 unfold atI; rw [e]; exact h
def GG (b : Expr) : Prop := ∀ o i, subscripted b false o i = operate [o, i] (getItem o i)
def IxR (X : Cx) (r : R2) : Prop :=
 ∀ (value slice : Expr) (pins : List (Addr × Obj)) (s : Shared) (σ : St) (H : Hp) (x y : V) (v u : Value) (Q : VK), Inv X pins σ H s → RelV x v → RelV y u → r x y H Q →
  subscripted slice false v u = operate [v, u] (getItem v u) → wpAny (model X.prog X.w) X.A (subscriptTail value slice v u) (EP X pins σ Q) X.xe s
def MtR (X : Cx) (id : String) (r : V → List V → Hp → VK → Prop) : Prop :=
 ∀ (pins : List (Addr × Obj)) (s : Shared) (σ : St) (H : Hp) (x : V) (xs : List V) (v : Value) (us : List Value) (Q : VK), Inv X pins σ H s → RelV x v → Vals xs us → r x xs H Q →
  wpAny (model X.prog X.w) X.A (call (.builtin id) (v :: us)) (EP X pins σ Q) X.xe s
section
variable {X : Cx} {a b : Expr} {ta tb : TE} {pos : Pos}
theorem IxR.or {r r' : R2} (h : IxR X r) (h' : IxR X r') : IxR X (fun x y H Q => r x y H Q ∨ r' x y H Q) := by
 intro value slice pins s σ H x y v u Q I rx ry q hs
 rcases q with q | q
 ·exact h value slice pins s σ H x y v u Q I rx ry q hs
 ·exact h' value slice pins s σ H x y v u Q I rx ry q hs
theorem Zao {r : R2} (hr : IxR X r) (ha : PE X a ta) (hb : PE X b tb) (hs : GG b) : PE X (.Subscript a b pos) (tOp r ta tb) := by
 intro pins s σ H Q I h
 exact Subscript_ (ZeK ha hb I h fun v u s2 x y H2 I2 rx ry q => hr a b pins s2 σ H2 x y v u Q I2 rx ry q (hs _ _))
def Ze2 (K : PySem.W.Frag) : R2 := fun x y H Q => ∃ p xs i v, x = .ref p ∧ y = .int i ∧ SqL K H p xs ∧ atI xs i = some v ∧ Q v H
def ZfV (K : PySem.W.Frag) : R2 := fun x y H Q => ∃ p xs i v, x = .ref p ∧ y = .int i ∧ SqT K H p xs ∧ atI xs i = some v ∧ Q v H
def ZfS : R2 := fun x y H Q => ∃ z i c, x = .str z ∧ y = .int i ∧ z.length ≤ sizeLine ∧ atI z.cps.toList i = some c ∧ Q (.str ⟨#[c]⟩) H
theorem P2 : IxR X (Ze2 X.K) := by
 intro value slice pins s σ H x y v u Q I rx ry h hs
 obtain ⟨p, xs, i, z, rfl, rfl, hq, he, q⟩ := h
 cases rx
 obtain ⟨t, rfl⟩ := ry
 obtain ⟨its, r, pl, hz⟩ := I.list hq
 obtain ⟨j, h1, h2, h3, h4, h5⟩ := Uz he
 obtain ⟨w, ew, rw'⟩ := r.get h2
 have hl := r.length
 have hn := WJ
 have fin : EP X pins σ Q w s := ⟨z, H, I, rw', q⟩
 by_cases h0 : 0 ≤ i
 ·have hj : i.toNat = j := by
   rw [seqIndex_of h0 h5] at h1
   exact Option.some.inj h1
  exact item_listR pl.isList h0 (by omega) (by rw [hj]; simpa using ew) fin hs
 ·have hj : (i + (its.toArray.size : Int)).toNat = j := by
   rw [seqIndex_neg (by omega) h4] at h1
   rw [List.size_toArray, ← hl]
   exact Option.some.inj h1
  exact subscriptTail_builtinR (x := w) pl.isList.typeIs slot_list_getitem.lookup
   (wpAny_getItem_list_neg (Q := fun r s' => r = w ∧ EP X pins σ Q r s') pl.isList (by omega) (by rw [List.size_toArray] <;> omega) (by omega) (by rw [hj]; simpa using ew) ⟨rfl, fin⟩) hs
theorem Zcr : IxR X (ZfV X.K) := by
 intro value slice pins s σ H x y v u Q I rx ry h hs
 obtain ⟨p, xs, i, z, rfl, rfl, hq, he, q⟩ := h
 cases rx
 obtain ⟨t, rfl⟩ := ry
 obtain ⟨its, r, pl, hz⟩ := I.tuple hq
 obtain ⟨j, h1, h2, h3, h4, h5⟩ := Uz he
 obtain ⟨w, ew, rw'⟩ := r.get h2
 have hl := r.length
 have hn := WJ
 have fin : EP X pins σ Q w s := ⟨z, H, I, rw', q⟩
 exact subscriptTail_builtinR (x := w) pl.typeIs slot_tuple_getitem.lookup
  (getItem_tuple (j := j) (Q := fun r s' => r = w ∧ EP X pins σ Q r s') pl (by omega) (by omega) (by rw [List.size_toArray, ← hl]; exact h1) (by simpa using ew) ⟨rfl, fin⟩) hs
theorem OS : IxR X ZfS := by
 intro value slice pins s σ H x y v u Q I rx ry h hs
 obtain ⟨z, i, c, rfl, rfl, hz, he, q⟩ := h
 obtain ⟨t, rfl⟩ := rx
 obtain ⟨t', rfl⟩ := ry
 obtain ⟨j, h1, h2, h3, h4, h5⟩ := Uz he
 have hl : z.cps.toList.length = z.length := by simp [Str.length]
 rw [hl] at h1 h4 h5
 have hn := WJ
 exact tail_any (typeIs_str s z t) slot_str_getitem.lookup (getItem_str (c := c) (by
  have e1 : decide (i < -(2 ^ 63 : Int)) = false := decide_eq_false (by omega)
  have e2 : decide (i ≥ 2 ^ 63) = false := decide_eq_false (by omega)
  rw [e1, e2, Bool.or_false]) (by rw [h1]; simpa using h2) ⟨.str ⟨#[c]⟩, H, I.tok _, ⟨_, rfl⟩, q⟩) hs
def rIx (K : PySem.W.Frag) : R2 := fun x y H Q => Ze2 K x y H Q ∨ ZfV K x y H Q ∨ ZfS x y H Q
theorem Zbl : IxR X (rIx X.K) := P2.or (Zcr.or OS)
theorem Cr (its : List Value) (n j : Nat) (u : Value) : Obj.mapSeq (·.setIfInBounds j u) { cls := .type "list", data := .seq its.toArray n } = { cls := .type "list", data := .seq (its.set j u).toArray n } := by
 simp [Obj.mapSeq]
theorem Inv.lst {pins : List (Addr × Obj)} {σ : St} {H : Hp} {s : Shared} {p : Addr} {xs : List V} (I : Inv X pins σ H s) (h : H p = some (.lst xs)) :
  ∃ (its : List Value) (n : Nat), Vals xs its ∧ s.heap.get? p = some { cls := .type "list", data := .seq its.toArray n } ∧ xs.length ≤ sizeLine := by
 obtain ⟨z, its, n, r, e⟩ := I.hok p _ h
 exact ⟨its, n, r, e, z⟩
theorem Inv.T6 {pins : List (Addr × Obj)} {σ : St} {H : Hp} {s : Shared} {p : Addr} {xs ys : List V} {its its' : List Value} {n n' : Nat} {f : Obj → Obj} (I : Inv X pins σ H s) (h : H p = some (.lst xs))
  (ho : s.heap.get? p = some { cls := .type "list", data := .seq its.toArray n }) (hf : f { cls := .type "list", data := .seq its.toArray n } = { cls := .type "list", data := .seq its'.toArray n' }) (r : Vals ys its') (hz : ys.length ≤ sizeLine) (t : Nat) :
  Inv X pins σ (upd H p (.lst ys)) { s with heap := s.heap.update p f, toks := t } := by
 have e : (s.heap.update p f).get? p = some { cls := .type "list", data := .seq its'.toArray n' } := by
  rw [Heap.get?_update_self f ho (by rw [hf] <;> rfl), hf]
 refine I.write (x := p) (e := p) (by rw [h]; trivial) (.inl rfl) (fun b u hb q => (Heap.get?_update_other _ _ (Ne.symm hb)).trans q) ⟨_, e⟩ ?_
 exact ⟨hz, its', n', r, e⟩
def ZeJ : V → V → V → Hp → (Hp → Prop) → Prop := fun o i v H Q => ∃ p xs k j, o = .ref p ∧ i = .int k ∧ H p = some (.lst xs) ∧ ixN xs.length k = some j ∧ Q (upd H p (.lst (xs.set j v)))
theorem set_list : Ze4 X ZeJ := by
 intro pins s σ H o i v ov iv u Q I ro ri rv h
 obtain ⟨p, xs, k, j, rfl, rfl, hp, hj, q⟩ := h
 cases ro
 obtain ⟨t, rfl⟩ := ri
 obtain ⟨its, n, r, ho, hz⟩ := I.lst hp
 obtain ⟨h1, h2, h3, h4⟩ := C6 hj
 have hl := r.length
 have hn := WJ
 have I' : Inv X pins σ (upd H p (.lst (xs.set j v))) { s with heap := s.heap.update p (Obj.mapSeq (·.setIfInBounds j u)) } :=
  I.T6 hp ho (Cr its n j u) (r.set rv j) (by rw [List.length_set]; exact hz) s.toks
 by_cases h0 : 0 ≤ k
 ·have hk : k.toNat = j := by
   rw [seqIndex_of h0 h4] at h1
   exact Option.some.inj h1
  exact PySem.W.ki_setAt ho h0 (by omega) (by rw [List.size_toArray, ← hl]; exact h4) (by rw [hk]; exact ⟨_, I', q⟩)
 ·have hk : (k + (its.toArray.size : Int)).toNat = j := by
   rw [seqIndex_neg (by omega) h3] at h1
   rw [List.size_toArray, ← hl]
   exact Option.some.inj h1
  exact PySem.W.ki_setBack ho (by omega) (by rw [List.size_toArray, ← hl]; exact h3) (by omega) (by rw [hk]; exact ⟨_, I', q⟩)
theorem WX (lo hi : Option Int) (n : Nat) : (sliceBounds lo hi none n).1 = ((HT.sIx n 0 lo : Nat) : Int) ∧ (sliceBounds lo hi none n).2.1 = ((HT.sIx n n hi : Nat) : Int) ∧ (sliceBounds lo hi none n).2.2 = 1 := by
 refine ⟨?_, ?_, rfl⟩
 ·cases lo with
  | none => simp [sliceBounds, HT.sIx]
  | some i =>
   simp only [sliceBounds, HT.sIx, Option.getD_none, show (1 : Int) > 0 by decide, if_true]
   by_cases h : i < 0
   ·simp only [h, if_true] <;> omega
   ·simp only [h, if_false] <;> omega
 ·cases hi with
  | none => simp [sliceBounds, HT.sIx]
  | some i =>
   simp only [sliceBounds, HT.sIx, Option.getD_none, show (1 : Int) > 0 by decide, if_true]
   by_cases h : i < 0
   ·simp only [h, if_true] <;> omega
   ·simp only [h, if_false] <;> omega
theorem Ku (its : List Value) (lo hi : Option Int) : slicePick its.toArray lo hi none = ((its.drop (HT.sIx its.length 0 lo)).take (HT.sIx its.length its.length hi - HT.sIx its.length 0 lo)).toArray := by
 obtain ⟨h1, h2, h3⟩ := WX lo hi its.toArray.size
 unfold slicePick
 rw [h1, h2, h3]
 simp only [sliceRange_one, pick_run, List.size_toArray] <;> rfl
def Zf7 (K : PySem.W.Frag) : V → Option Int → Option Int → Hp → VK → Prop := fun x lo hi H Q => ∃ a xs, x = .ref a ∧ SqL K H a xs ∧ ∀ p, H p = none → Q (.ref p) (upd H p (.lst (N3 xs lo hi)))
theorem Sr : SlR X (Zf7 X.K) := by
 intro pins s σ H x v vl vu lo hi sl Q I rx hs pl pu h
 obtain ⟨a, xs, rfl, hx, q⟩ := h
 cases rx
 obtain ⟨its, r, ht, hz⟩ := I.list hx
 have hlen := r.length
 refine ⟨"list", _, slot_list_getitem.lookup, ht.isList.typeIs, ?_⟩
 refine wpAny_getItem_list_slice ht.isList hs pl pu .none (by simp) ?_ (by rw [List.size_toArray] <;> omega)
 rw [Ku, ← hlen]
 refine ⟨.ref s.heap.objs.size, _, I.laid (t' := s.toks) (o := .lst (N3 xs lo hi)) (fun b ob q => Heap.get?_push_of_some _ q) (Nat.le_refl _) ?_, rfl, q _ (I.hok.fresh (Nat.le_refl _))⟩
 exact ⟨Nat.le_trans (YQ xs lo hi) hz, _, 0, (r.drop (HT.sIx xs.length 0 lo)).take (HT.sIx xs.length xs.length hi - HT.sIx xs.length 0 lo), Heap.get?_push_size _ rfl⟩
noncomputable def Zbv : V → Bool
 | .non => true
 | .bl _ => true
 | .int _ => true
 | .str _ => true
 | _ => false
noncomputable def eqV : V → V → Bool
 | .non, .non => true
 | .bl a, .bl b => a == b
 | .bl a, .int b => (if a then 1 else 0) == b
 | .int a, .bl b => a == (if b then 1 else 0)
 | .int a, .int b => a == b
 | .str a, .str b => a == b
 | _, _ => false
noncomputable def eqU (x : V) (u : Value) : Bool := match u with
 | .none => eqV .non x
 | .bool b => eqV (.bl b) x
 | .int i _ => eqV (.int i) x
 | .str z _ => eqV (.str z) x
 | _ => false
noncomputable def inV (x : V) (xs : List V) : Bool := xs.any fun y => eqV y x
def rIn (K : PySem.W.Frag) (neg : Bool) : R2 := fun x y H Q => ∃ p xs, y = .ref p ∧ (SqL K H p xs ∨ SqT K H p xs) ∧ Zbv x = true ∧ xs.all Zbv = true ∧ Q (.bl (if neg then !inV x xs else inV x xs)) H
theorem WV : QF X (.builtin "len") (fun xs H Q => ∃ p ys, xs = [.ref p] ∧ (SqL X.K H p ys ∨ SqT X.K H p ys) ∧ Q (.int ys.length) H) := by
 intro pins s σ H xs us Q I r h
 obtain ⟨p, ys, rfl, hq, q⟩ := h
 obtain ⟨u, rfl, rx⟩ := vals1 r
 cases rx
 have hn := WJ
 rcases hq with hq | hq
 ·obtain ⟨its, r', pl, hz⟩ := I.list hq
  have hlen := r'.length
  exact Calls.call_len_list pl.isList (by simp only [List.size_toArray] <;> omega) ⟨.int ys.length, H, I.tok _, ⟨s.toks + 1, by rw [List.size_toArray, hlen]⟩, q⟩
 ·obtain ⟨its, r', pl, hz⟩ := I.tuple hq
  have hlen := r'.length
  exact len_tuple pl (by simp only [List.size_toArray] <;> omega) ⟨.int ys.length, H, I.tok _, ⟨s.toks + 1, by rw [List.size_toArray, hlen]⟩, q⟩
theorem K0 : QF X (.type "list") (fun xs H Q => ∃ p ys, xs = [.ref p] ∧ (SqL X.K H p ys ∨ SqT X.K H p ys) ∧ ∀ l, H l = none → Q (.ref l) (upd H l (.lst ys))) := by
 intro pins s σ H xs us Q I r h
 obtain ⟨p, ys, rfl, hq, q⟩ := h
 obtain ⟨u, rfl, rx⟩ := vals1 r
 cases rx
 have fin : ∀ (its : List Value), Vals ys its → ys.length ≤ sizeLine → ∀ (h' : Heap) (c' : Nat), (∀ b o', s.heap.get? b = some o' → h'.get? b = some o') →
   h'.get? s.heap.objs.size = some { cls := .type "list", dict := none, data := .seq its.toArray c', slots := #[] } → EP X pins σ Q (.ref s.heap.objs.size) { s with heap := h' } := fun its r' hz h' c' kp e =>
  ⟨.ref s.heap.objs.size, _, I.laid (t' := s.toks) kp (Nat.le_refl _) (show Qh X.prog X.w _ h' _ (.lst ys) from ⟨hz, its, c', r', e⟩), rfl, q _ (I.hok.fresh (Nat.le_refl _))⟩
 rcases hq with hq | hq
 ·obtain ⟨its, r', pl, hz⟩ := I.list hq
  have hlen := r'.length
  obtain ⟨o, ho, hc, n, hd⟩ := pl.isList
  exact call_list_seq p (.inl rfl) ho hc hd (fun h' c' kp e => fin its r' hz h' c' kp e) (by simp only [List.size_toArray] <;> omega)
 ·obtain ⟨its, r', pl, hz⟩ := I.tuple hq
  have hlen := r'.length
  obtain ⟨o, ho, hc, n, hd⟩ := pl
  exact call_list_seq p (.inr rfl) ho hc hd (fun h' c' kp e => fin its r' hz h' c' kp e) (by simp only [List.size_toArray] <;> omega)
theorem XZ : QF X (.type "tuple") (fun xs H Q => ∃ p ys, xs = [.ref p] ∧ ((SqL X.K H p ys ∧ ∀ l, H l = none → Q (.ref l) (upd H l (.tup ys))) ∨ (SqT X.K H p ys ∧ Q (.ref p) H))) := by
 intro pins s σ H xs us Q I r h
 obtain ⟨p, ys, rfl, h⟩ := h
 obtain ⟨u, rfl, rx⟩ := vals1 r
 cases rx
 rcases h with ⟨hq, q⟩ | ⟨hq, q⟩
 ·obtain ⟨its, r', pl, hz⟩ := I.list hq
  have hlen := r'.length
  refine call_tuple_list pl.isList (fun h' kp => ?_) (by simp only [List.size_toArray] <;> omega)
  have I1 : Inv X pins σ H { s with heap := h' } := I.kept (t' := s.toks) kp
  have I2 : Inv X pins σ (upd H h'.objs.size (.tup ys)) { s with heap := h'.push { cls := .type "tuple", data := .seq its.toArray } } :=
   I1.laid (t' := s.toks) (fun b o e => Heap.get?_push_of_some _ e) (Nat.le_refl _) (show Qh X.prog X.w _ _ _ (.tup ys) from ⟨hz, its, r', IsTup.new _ _⟩)
  exact ⟨.ref h'.objs.size, _, I2, rfl, q _ (I1.hok.fresh (Nat.le_refl _))⟩
 ·obtain ⟨its, r', pl, hz⟩ := I.tuple hq
  exact call_tuple_same pl ⟨.ref p, H, I, rfl, q⟩
def tyV (K : PySem.W.Frag) (T : String) (x : V) (H : Hp) : Prop := match x with
 | .str _ => T = "str"
 | .int _ => T = "int"
 | .ref p => (T = "list" ∧ ∃ xs, SqL K H p xs) ∨ (T = "tuple" ∧ ∃ o, K.lookup p = some o ∧ o.cls = .type "tuple" ∧ o.dict = none) ∨
   (T = "dict" ∧ ((∃ kvs, H p = some (.dK kvs)) ∨ ∃ kvs, H p = some (.dT kvs))) ∨ (T = "set" ∧ ∃ S n, H p = some (.set S n))
 | _ => False
theorem OW {pins : List (Addr × Obj)} {σ : St} {H : Hp} {s : Shared} {T : String} {x : V} {v : Value} (I : Inv X pins σ H s) (r : RelV x v) (ty : tyV X.K T x H) :
  s.TypeIs v T ∧ ∀ a, v = .ref a → ∃ ob, s.heap.get? a = some ob ∧ ob.dict = none := by
 cases x with
 | str z =>
  obtain ⟨t, rfl⟩ := r
  cases (show T = "str" from ty)
  exact ⟨typeIs_str s z t, fun _ e => nomatch e⟩
 | int i =>
  obtain ⟨t, rfl⟩ := r
  cases (show T = "int" from ty)
  exact ⟨typeIs_int s i t, fun _ e => nomatch e⟩
 | ref p =>
  cases r
  rcases ty with ⟨rfl, xs, hq⟩ | ⟨rfl, o, hk, hc, hd⟩ | ⟨rfl, hk⟩ | ⟨rfl, S, n, hk⟩
  ·obtain ⟨its, _, pl, _⟩ := I.list hq
   refine ⟨pl.isList.typeIs, fun a e => ?_⟩
   cases e
   obtain ⟨o, n, e, c, hd, _⟩ := pl
   exact ⟨o, e, hd⟩
  ·refine ⟨⟨o, I.kIn p o hk, hc⟩, fun a e => ?_⟩
   cases e
   exact ⟨o, I.kIn _ o hk, hd⟩
  ·have z : ∃ o, s.heap.get? p = some o ∧ o.ExactDict := by
    rcases hk with ⟨kvs, hk⟩ | ⟨kvs, hk⟩
    ·obtain ⟨_, _, _, _, o, _, _, e, ex, _⟩ := I.hok p _ hk
     exact ⟨o, e, ex⟩
    ·obtain ⟨_, _, _, _, o, _, _, e, ex, _⟩ := I.hok p _ hk
     exact ⟨o, e, ex⟩
   obtain ⟨o, e, ex⟩ := z
   refine ⟨⟨o, e, ex.1⟩, fun a e2 => ?_⟩
   cases e2
   exact ⟨o, e, ex.2.1⟩
  ·obtain ⟨o, _, _, _, e, ex, _⟩ := I.hok p _ hk
   refine ⟨⟨o, e, ex.1⟩, fun a e2 => ?_⟩
   cases e2
   exact ⟨o, e, ex.2.1⟩
 | _ => exact False.elim ty
def ZgC (K : PySem.W.Frag) (T : String) (r : V → List V → Hp → VK → Prop) (to : TE) : TE := fun σ H Q => to σ H fun x H1 => tyV K T x H1 ∧ r x [] H1 Q
def tBM (K : PySem.W.Frag) (T : String) (r : V → List V → Hp → VK → Prop) (to : TE) (t : TA) : TE := fun σ H Q => to σ H fun x H1 => tyV K T x H1 ∧ t σ H1 fun xs H2 => r x xs H2 Q
variable {o e : Expr} {es : List Expr} {to : TE} {t : TA} {name : Str} {apos cpos : Pos} {T id : String} {r : V → List V → Hp → VK → Prop}
theorem Zbc (pa : PlainAttrs T) (slot : Slot T name id) (hty : typeOf (.builtin id) = pure (.type "method_descriptor")) (hm : MtR X id r) (ho : PE X o to)
  (hbase : autoParam (attributeBase o name X.env (eval o X.env) = eval o X.env) zz3._auto_1) (hline : autoParam ((apos.endLine == cpos.line) = true) zz3._auto_1) : PE X (.Call (.Attribute o name apos) [] [] cpos) (ZgC X.K T r to) := by
 intro pins s σ H Q I h
 refine wpAny_Call_method0_late hbase hline (thn (ho pins s σ H _ I h) fun v s1 ⟨x, H1, I1, r1, ty, q1⟩ => ?_)
 obtain ⟨h1, h2⟩ := OW I1 r1 ty
 exact ⟨T, id, pa, slot, hty, h1, h2, Calls.callWith_builtin rfl (PySem.evalArgs_none (hm pins s1 σ H1 x [] v [] Q I1 r1 .nil q1))⟩
theorem Pb (pa : PlainAttrs T) (slot : Slot T name id) (hty : typeOf (.builtin id) = pure (.type "method_descriptor")) (hm : MtR X id r) (ho : PE X o to) (ha : PA X (e :: es) t)
  (hbase : autoParam (attributeBase o name X.env (eval o X.env) = eval o X.env) zz3._auto_1)
  (hfew : ((backTo cpos (starEach (e :: es) X.env)).all (fun x => !x.1) && (backToKw cpos (keywordEach [] X.env)).all (fun x => x.1.isSome)
   && decide ((e :: es).length + ([] : List Keyword).length + (if ([] : List Keyword).isEmpty then 0 else 1) < 30)) = true := by rfl)
  (hline : autoParam ((apos.endLine == cpos.line) = true) zz3._auto_1) (hs : autoParam (starEach (e :: es) X.env = (false, eval e X.env) :: starEach es X.env) zz3._auto_1) (hplain : autoParam ((backTo cpos (starEach es X.env)).any (·.1) = false) zz3._auto_1) :
  PE X (.Call (.Attribute o name apos) (e :: es) [] cpos) (tBM X.K T r to t) := by
 intro pins s σ H Q I h
 refine wpAny_Call_method_late hbase hfew hline rfl (thn (ho pins s σ H _ I h) fun v s1 ⟨x, H1, I1, r1, ty, q1⟩ => ?_)
 obtain ⟨h1, h2⟩ := OW I1 r1 ty
 refine ⟨T, id, pa, slot, hty, h1, h2, ?_⟩
 have hA := ha cpos pins s1 σ H1 _ I1 q1
 rw [hs] at hA ⊢
 refine Calls.callWith_builtin (by show (false || (backTo cpos (starEach es X.env)).any (·.1)) = false; rw [hplain] <;> rfl) (Calls.evalArgs_plain ?_)
 exact thn hA fun us s2 ⟨vs, H2, I2, r2, q2⟩ => hm pins s2 σ H2 x vs v us Q I2 r1 r2 q2
end
end L2
namespace L2
open PySem PySem.Spec PyProof.Rows
def MtM (X : Cx) (id : String) (r : V → List V → Hp → VK → Prop) : Prop :=
 ∀ (pins : List (Addr × Obj)) (s : Shared) (σ : St) (H : Hp) (x : V) (xs : List V) (v : Value) (us : List Value) (Q : VK), Inv X pins σ H s → RelV x v → Vals xs us → r x xs H Q →
  wpAny (model X.prog X.w) X.A (call (.builtin id) (v :: us)) (EP X pins σ Q) X.xe s
theorem Vals.one : ∀ {x : V} {us : List Value}, Vals [x] us → ∃ u, us = [u] ∧ RelV x u
 | _, _, .cons r .nil => ⟨_, rfl, r⟩
theorem Vals.zero : ∀ {us : List Value}, Vals [] us → us = []
 | _, .nil => rfl
theorem Vals.reverse {xs : List V} {us : List Value} (h : Vals xs us) : Vals xs.reverse us.reverse := by
 induction h with
 | nil => exact .nil
 | cons r t ih => rw [List.reverse_cons, List.reverse_cons]; exact Vals.append ih (.cons r .nil)
section
variable {X : Cx} {pins : List (Addr × Obj)} {σ : St} {H : Hp} {s : Shared} {l b : Addr} {xs ys zs : List V}
theorem Inv.ZdX {its its' : List Value} {n : Nat} {f : Array Value → Array Value} {t' : Nat} (I : Inv X pins σ H s) (hH : H l = some (.lst xs))
  (e : s.heap.get? l = some { cls := .type "list", data := .seq its.toArray n }) (hf : f its.toArray = its'.toArray) (hv : Vals ys its') (hz : ys.length ≤ sizeLine) :
  Inv X pins σ (upd H l (.lst ys)) { s with heap := s.heap.update l (Obj.mapSeq f), toks := t' } := by
 have q := PySem.IsL.update e f
 rw [hf] at q
 refine I.write (x := l) (e := l) (by rw [hH]; exact trivial) (.inl rfl) (fun b' u hb hu => (Heap.get?_update_other s.heap (Obj.mapSeq f) (Ne.symm hb)).trans hu) ⟨_, q⟩ ?_
 exact ⟨hz, its', _, hv, q⟩
theorem Inv.ZgU {its : List Value} {t' : Nat} (I : Inv X pins σ H s) (hv : Vals ys its) (hz : ys.length ≤ sizeLine) :
  Inv X pins σ (upd H s.heap.objs.size (.lst ys)) { s with heap := s.heap.push { cls := .type "list", data := .seq its.toArray }, toks := t' } :=
 I.laid (fun _ _ q => Heap.get?_push_of_some _ q) (Nat.le_refl _) ⟨hz, its, 0, hv, Heap.get?_push_size _ rfl⟩
theorem Inv.fresh (I : Inv X pins σ H s) : H s.heap.objs.size = none := I.hok.fresh (Nat.le_refl _)
theorem Inv.Zdf (I : Inv X pins σ H s) (hH : H l = some (.lst xs)) : xs.length ≤ sizeLine ∧ ∃ (its : List Value) (n : Nat), Vals xs its ∧ xs.length = its.length ∧ s.heap.get? l = some { cls := .type "list", data := .seq its.toArray n } := by
 obtain ⟨z, its, n, r, e⟩ := I.hok l _ hH
 exact ⟨z, its, n, r, r.length, e⟩
theorem LK {n : Nat} (h : n ≤ sizeLine) : Builtin.List.listTooLong n = false := by
 unfold Builtin.List.listTooLong
 exact decide_eq_false (by omega)
end
section
variable {X : Cx}
def Ts : V → List V → Hp → VK → Prop := fun x vs H Q => ∃ l xs y, x = .ref l ∧ vs = [y] ∧ H l = some (.lst xs) ∧ xs.length < sizeLine ∧ Q .non (upd H l (.lst (xs ++ [y])))
theorem EH : MtM X "list.append" Ts := by
 intro pins s σ H x vs v us Q I rx rv h
 obtain ⟨l, xs, y, rfl, rfl, hH, hz, q⟩ := h
 cases rx
 obtain ⟨u, rfl, ru⟩ := rv.one
 obtain ⟨z, its, n, r, hl, e⟩ := I.Zdf hH
 refine call_meets F.slot_list_append ⟨_, e, rfl⟩ F.entry_list_append (F.args_list_append_2 _ _) (PySem.list_append l its.toArray n u (by rw [List.size_toArray]; omega)) ⟨e, ?_⟩
 refine ⟨.non, _, I.ZdX (its' := its ++ [u]) hH e (by simp) (r.append (.cons ru .nil)) ?_, rfl, q⟩
 rw [List.length_append, List.length_singleton]
 omega
def Rh : V → List V → Hp → VK → Prop := fun x vs H Q => ∃ l b xs zs, x = .ref l ∧ vs = [.ref b] ∧ H l = some (.lst xs) ∧ H b = some (.lst zs) ∧ xs.length + zs.length ≤ sizeLine ∧ Q .non (upd H l (.lst (xs ++ zs)))
theorem C9 : MtM X "list.extend" Rh := by
 intro pins s σ H x vs v us Q I rx rv h
 obtain ⟨l, b, xs, zs, rfl, rfl, hH, hB, hz, q⟩ := h
 cases rx
 obtain ⟨u, rfl, ru⟩ := rv.one
 cases ru
 obtain ⟨z, its, n, r, hl, e⟩ := I.Zdf hH
 obtain ⟨z2, its2, n2, r2, hl2, e2⟩ := I.Zdf hB
 have hsz : its.toArray.size + its2.toArray.size ≤ sizeLine := by rw [List.size_toArray, List.size_toArray]; omega
 have hlong : ¬ (!its.toArray.isEmpty && Builtin.List.listTooLong (its.toArray.size + its2.toArray.size)) = true := by
  rw [LK hsz, Bool.and_false]
  exact Bool.false_ne_true
 refine call_meets F.slot_list_extend ⟨_, e, rfl⟩ F.entry_list_extend (F.args_list_extend_2 _ _)
  (AutoSeq1.list_extend_list_list_0 l its.toArray n b its2.toArray n2 hlong (by rw [List.size_toArray]; omega) (by omega)) ⟨e, e2, ?_⟩
 refine ⟨.non, _, I.ZdX (its' := its ++ its2) hH e (by simp) (r.append r2) ?_, rfl, q⟩
 rw [List.length_append]
 omega
def Zhk : V → List V → Hp → VK → Prop := fun x vs H Q => ∃ l xs y, x = .ref l ∧ vs = [] ∧ H l = some (.lst xs) ∧ xs[xs.length - 1]? = some y ∧ Q y (upd H l (.lst xs.dropLast))
def Ze6 : V → List V → Hp → VK → Prop := fun x vs H Q => ∃ l xs i k y, x = .ref l ∧ vs = [.int i] ∧ H l = some (.lst xs) ∧ -(2 ^ 63) ≤ i ∧ i < 2 ^ 63 ∧ seqIndex? i xs.length = some k ∧ xs[k]? = some y ∧ Q y (upd H l (.lst (xs.eraseIdx k)))
def Zdv : V → List V → Hp → VK → Prop := fun x vs H Q => ∃ l xs, x = .ref l ∧ vs = [] ∧ H l = some (.lst xs) ∧ Q .non (upd H l (.lst xs.reverse))
def Zaf : V → List V → Hp → VK → Prop := fun x vs H Q => ∃ l xs, x = .ref l ∧ vs = [] ∧ H l = some (.lst xs) ∧ Q .non (upd H l (.lst []))
theorem Mx : MtM X "list.clear" Zaf := by
 intro pins s σ H x vs v us Q I rx rv h
 obtain ⟨l, xs, rfl, rfl, hH, q⟩ := h
 cases rx
 have hus := rv.zero
 subst hus
 obtain ⟨z, its, n, r, hl, e⟩ := I.Zdf hH
 refine call_meets F.slot_list_clear ⟨_, e, rfl⟩ F.entry_list_clear (F.args_list_clear_1 _) (AutoSeq1.list_clear_list_0 l its.toArray n (by rw [List.size_toArray]; omega)) ⟨e, ?_⟩
 exact ⟨.non, _, I.ZdX (its' := []) (ys := []) hH e rfl .nil (Nat.zero_le _), rfl, q⟩
def Zg9 : R2 := fun x y H Q => ∃ l b xs zs, x = .ref l ∧ y = .ref b ∧ H l = some (.lst xs) ∧ H b = some (.lst zs) ∧ xs.length + zs.length ≤ sizeLine ∧ ∀ p, H p = none → Q (.ref p) (upd H p (.lst (xs ++ zs)))
def Zha : R2 := fun x y H Q => ∃ l k xs, x = .ref l ∧ y = .int k ∧ H l = some (.lst xs) ∧ -(2 ^ 63) ≤ k ∧ k < 2 ^ 63 ∧ xs.length * k.toNat ≤ sizeLine ∧
 ∀ p, H p = none → Q (.ref p) (upd H p (.lst (List.replicate k.toNat xs).flatten))
end
section
variable {prog : Program} {w : World} {A : Around} {E : Value → Shared → Prop} {s : Shared}
set_option maxRecDepth 100000 in
end
section
variable {X : Cx}
end
end L2
namespace L2
open PySem PySem.Spec PyProof.Rows
section
variable {κ : Type} [DecidableEq κ]
noncomputable def V7 (kvs : List (κ × V)) (k : κ) : Option V := (kvs.find? fun kv => decide (kv.1 = k)).map (·.2)
noncomputable def putK (kvs : List (κ × V)) (k : κ) (v : V) : List (κ × V) :=
 if (kvs.any fun kv => decide (kv.1 = k)) = true then kvs.map (fun kv => if kv.1 = k then (kv.1, v) else kv) else kvs ++ [(k, v)]
noncomputable def RN (kvs : List (κ × V)) (k : κ) : List (κ × V) := kvs.filter fun kv => decide (kv.1 ≠ k)
theorem Kl {p : κ × V} {r : List (κ × V)} {k : κ} (e : p.1 = k) : V7 (p :: r) k = some p.2 := by simp [V7, List.find?_cons, e]
theorem Kr {p : κ × V} {r : List (κ × V)} {k : κ} (e : ¬ p.1 = k) : V7 (p :: r) k = V7 r k := by simp [V7, List.find?_cons, e]
theorem GU (k : κ) : ∀ kvs : List (κ × V), (kvs.any fun kv => decide (kv.1 = k)) = (V7 kvs k).isSome
 | [] => rfl
 | p :: r => by
  rw [List.any_cons]
  by_cases e : p.1 = k
  ·simp only [Kl e, decide_eq_true e, Bool.true_or, Option.isSome_some]
  ·rw [Kr e, decide_eq_false e, Bool.false_or]; exact GU k r
theorem Jc (kvs : List (κ × V)) (k : κ) (v : V) : (putK kvs k v).length ≤ kvs.length + 1 := by
 unfold putK
 split
 ·rw [List.length_map]; omega
 ·rw [List.length_append, List.length_cons, List.length_nil]; omega
theorem CO.Jv {o : Option V} {u : Option Value} (r : CO o u) : o.isSome = u.isSome := by
 cases o with
 | none => cases u with
  | none => rfl
  | some _ => exact (show False from r).elim
 | some _ => cases u with
  | none => exact (show False from r).elim
  | some _ => rfl
theorem CO.getD {o : Option V} {u : Option Value} {d : V} {d' : Value} (r : CO o u) (rd : RelV d d') : RelV (o.getD d) (u.getD d') := by
 cases o with
 | none => cases u with
  | none => exact rd
  | some _ => exact (show False from r).elim
 | some _ => cases u with
  | none => exact (show False from r).elim
  | some _ => exact r
theorem KV.val {kvs : List (κ × V)} {vs : List (κ × Value)} (r : KV kvs vs) (k : κ) : CO (V7 kvs k) (valueAt vs k) := by
 unfold KV at r
 induction r with
 | nil => exact True.intro
 | @cons p q ps qs h t ih =>
  obtain ⟨h1, h2⟩ := h
  by_cases e : p.1 = k
  ·have e' : q.1 = k := h1.symm.trans e
   have b : valueAt (q :: qs) k = some q.2 := by simp [valueAt, List.find?_cons, e']
   rw [Kl e, b]; exact h2
  ·have e' : ¬ q.1 = k := fun z => e (h1.trans z)
   have b : valueAt (q :: qs) k = valueAt qs k := by simp [valueAt, List.find?_cons, e']
   rw [Kr e, b]; exact ih
theorem KV.any {kvs : List (κ × V)} {vs : List (κ × Value)} (r : KV kvs vs) (k : κ) : (kvs.any fun kv => decide (kv.1 = k)) = vs.any fun kv => decide (kv.1 = k) := by
 unfold KV at r
 induction r with
 | nil => rfl
 | cons h t ih => rw [List.any_cons, List.any_cons, ih, h.1]
theorem KV.R0 {kvs : List (κ × V)} {vs : List (κ × Value)} (r : KV kvs vs) (k : κ) {y : V} {u : Value} (ry : RelV y u) :
  KV (kvs.map fun kv => if kv.1 = k then (kv.1, y) else kv) (vs.map fun kv => if kv.1 = k then (kv.1, u) else kv) := by
 unfold KV at r ⊢
 induction r with
 | nil => exact .nil
 | @cons p q ps qs h t ih =>
  rw [List.map_cons, List.map_cons]
  refine .cons ?_ ih
  obtain ⟨h1, h2⟩ := h
  by_cases e : p.1 = k
  ·rw [if_pos e, if_pos (h1.symm.trans e)]; exact ⟨h1, ry⟩
  ·rw [if_neg e, if_neg (fun z => e (h1.trans z))]; exact ⟨h1, h2⟩
theorem KV.put {kvs : List (κ × V)} {vs : List (κ × Value)} (r : KV kvs vs) (k : κ) {y : V} {u : Value} (ry : RelV y u) : KV (putK kvs k y) (stored vs k u) := by
 unfold putK stored
 rw [r.any k]
 by_cases e : (vs.any fun kv => decide (kv.1 = k)) = true
 ·rw [if_pos e, if_pos e]; exact r.R0 k ry
 ·rw [if_neg e, if_neg e]; exact Paired.snoc r ⟨rfl, ry⟩
theorem KV.keys {kvs : List (κ × V)} {vs : List (κ × Value)} (r : KV kvs vs) : kvs.map (·.1) = vs.map (·.1) := by
 unfold KV at r
 induction r with
 | nil => rfl
 | cons h t ih => rw [List.map_cons, List.map_cons, ih, h.1]
theorem KV.length {kvs : List (κ × V)} {vs : List (κ × Value)} (r : KV kvs vs) : kvs.length = vs.length := Paired.length r
end
theorem UP {P : Program} {w : World} {k : Key} {u : Value} (r : RelV (kV k) u) : (ZW P w).is k u = true := by
 cases k with
 | inl i => obtain ⟨t, e⟩ := (show ∃ t, u = Value.int i t from r); subst e; exact Gy P w i t
 | inr x => obtain ⟨t, e⟩ := (show ∃ t, u = Value.str x t from r); subst e; exact Uq P w x t
theorem WT {P : Program} {w : World} : ∀ {ks : List Key} {us : List Value}, Vals (ks.map kV) us → ItemsAre (ZW P w) ks us
 | [], _, r => by rw [List.map_nil] at r; cases r; exact .nil
 | k :: ks, _, r => by
  rw [List.map_cons] at r
  cases r with
  | cons h t => exact .cons (UP h) (WT t)
abbrev KT (H : Hp) : List (List Key × V) → List (List Key × Addr × Value) → Prop := Paired fun p q => p.1 = q.1 ∧ H q.2.1 = some (.tup (p.1.map kV)) ∧ RelV p.2 q.2.2
theorem KT.val {H : Hp} {kvs : List (List Key × V)} {xs : List (List Key × Addr × Value)} (r : KT H kvs xs) (k : List Key) : CO (V7 kvs k) ((atKey xs k).map (·.2)) := by
 induction r with
 | nil => exact True.intro
 | @cons p q ps qs h t ih =>
  obtain ⟨h1, _, h2⟩ := h
  by_cases e : p.1 = k
  ·have e' : q.1 = k := h1.symm.trans e
   have b : atKey (q :: qs) k = some q.2 := by simp [atKey, List.find?_cons, e']
   rw [Kl e, b]; exact h2
  ·have e' : ¬ q.1 = k := fun z => e (h1.trans z)
   have b : atKey (q :: qs) k = atKey qs k := by simp [atKey, List.find?_cons, e']
   rw [Kr e, b]; exact ih
theorem KT.R0 {H : Hp} {kvs : List (List Key × V)} {xs : List (List Key × Addr × Value)} (r : KT H kvs xs) (k : List Key) {y : V} {u : Value} (ry : RelV y u) :
  KT H (kvs.map fun kv => if kv.1 = k then (kv.1, y) else kv) (xs.map (putAt k u)) := by
 induction r with
 | nil => exact .nil
 | @cons p q ps qs h t ih =>
  rw [List.map_cons, List.map_cons]
  refine .cons ?_ ih
  obtain ⟨h1, h2, h3⟩ := h
  unfold putAt
  by_cases e : p.1 = k
  ·rw [if_pos e, if_pos (h1.symm.trans e)]; exact ⟨h1, h2, ry⟩
  ·rw [if_neg e, if_neg (fun z => e (h1.trans z))]; exact ⟨h1, h2, h3⟩
theorem KT.put {H : Hp} {kvs : List (List Key × V)} {xs : List (List Key × Addr × Value)} (r : KT H kvs xs) (k : List Key) {b : Addr} {y : V} {u : Value} (hb : H b = some (.tup (k.map kV))) (ry : RelV y u) :
  KT H (putK kvs k y) (storedH xs k b u) := by
 have e : (kvs.any fun kv => decide (kv.1 = k)) = (atKey xs k).isSome := by
  rw [GU, (r.val k).Jv, Option.isSome_map]
 unfold putK storedH
 rw [e]
 by_cases q : (atKey xs k).isSome = true
 ·rw [if_pos q, if_pos q]; exact r.R0 k ry
 ·rw [if_neg q, if_neg q]; exact Paired.snoc r ⟨rfl, hb, ry⟩
theorem KT.keeps {H H' : Hp} {kvs : List (List Key × V)} {xs : List (List Key × Addr × Value)} (r : KT H kvs xs) (ht : ∀ b ys, H b = some (.tup ys) → H' b = some (.tup ys)) : KT H' kvs xs :=
 Paired.TK r fun _ _ z => ⟨z.1, ht _ _ z.2.1, z.2.2⟩
section
variable {P : Program} {w : World} {H : Hp} {h : Heap} {a : Addr}
theorem Zbf {u : HO} (ok : HOk P w H h) (e : Rd H a u) : Qh P w H h a u := e.ok ok
theorem B6 {kvs : List (Key × V)} (ok : HOk P w H h) (e : Rd H a (.dK kvs)) : kvs.length ≤ sizeLine ∧ (a == sysModules) = false ∧ ∃ vs, KV kvs vs ∧ h.DictOf (ZW P w) a vs :=
 show Qh P w H h a (.dK kvs) from Zbf ok e
theorem Sg {kvs : List (Key × V)} (ok : HOk P w H h) (e : H a = some (.dK kvs)) : kvs.length ≤ sizeLine ∧ (a == sysModules) = false ∧ ∃ vs, KV kvs vs ∧ h.DictOf (ZW P w) a vs := B6 ok (.inl e)
theorem Wr {ks : List Key} (ok : HOk P w H h) (e : H a = some (.tup (ks.map kV))) : (tupleKind (ZW P w)).is h ks a := by
 obtain ⟨_, its, r, o, h1, h2, n, h3⟩ := (show Qh P w H h a (.tup (ks.map kV)) from ok a _ e)
 exact ⟨o, its.toArray, n, h1, h2, h3, by simpa using WT r⟩
theorem Fn {kvs : List (List Key × V)} (ok : HOk P w H h) (e : Rd H a (.dT kvs)) : kvs.length ≤ sizeLine ∧ (a == sysModules) = false ∧
  ∃ xs, KT H kvs xs ∧ h.DictOfH (tupleKind (ZW P w)) a xs := by
 obtain ⟨z, y, xs, r, o, es, ep, h1, h2, h3, h4, h5⟩ := (show Qh P w H h a (.dT kvs) from Zbf ok e)
 refine ⟨z, y, xs, r, o, es, ep, h1, h2, h3, h4, fun x hx => ?_, h5⟩
 have all : ∀ {l : List (List Key × V)} {m : List (List Key × Addr × Value)}, KT H l m → ∀ x ∈ m, (tupleKind (ZW P w)).is h x.1 x.2.1 := by
  intro l m q
  induction q with
  | nil => intro x hx; exact nomatch hx
  | @cons p q ps qs hq t ih =>
   intro x hx
   rcases List.mem_cons.mp hx with e | hx
   ·subst e
    exact Wr ok (by rw [← hq.1]; exact hq.2.1)
   ·exact ih x hx
 exact all r x hx
theorem ZdU {kvs : List (List Key × V)} (ok : HOk P w H h) (e : H a = some (.dT kvs)) : kvs.length ≤ sizeLine ∧ (a == sysModules) = false ∧
  ∃ xs, KT H kvs xs ∧ h.DictOfH (tupleKind (ZW P w)) a xs := Fn ok (.inl e)
end
def KL (H : Hp) (a : Addr) (y : V) (r : Option V) : Prop :=
 (∃ kvs k, Rd H a (.dK kvs) ∧ y = kV k ∧ r = V7 kvs k) ∨ ∃ kvs k b, Rd H a (.dT kvs) ∧ y = .ref b ∧ H b = some (.tup (k.map kV)) ∧ r = V7 kvs k
def LS (H : Hp) (a : Addr) (y v : V) (H' : Hp) : Prop :=
 (∃ kvs k, H a = some (.dK kvs) ∧ y = kV k ∧ kvs.length < sizeLine ∧ H' = upd H a (.dK (putK kvs k v))) ∨
 ∃ kvs k b, H a = some (.dT kvs) ∧ y = .ref b ∧ H b = some (.tup (k.map kV)) ∧ kvs.length < sizeLine ∧ H' = upd H a (.dT (putK kvs k v))
theorem KL.k {H : Hp} {a : Addr} {kvs : List (Key × V)} {k : Key} (e : H a = some (.dK kvs)) : KL H a (kV k) (V7 kvs k) := .inl ⟨kvs, k, .inl e, rfl, rfl⟩
theorem KL.t {H : Hp} {a b : Addr} {kvs : List (List Key × V)} {k : List Key} (e : H a = some (.dT kvs)) (eb : H b = some (.tup (k.map kV))) : KL H a (.ref b) (V7 kvs k) := .inr ⟨kvs, k, b, .inl e, rfl, eb, rfl⟩
theorem LS.k {H : Hp} {a : Addr} {kvs : List (Key × V)} {k : Key} {v : V} (e : H a = some (.dK kvs)) (hl : kvs.length < sizeLine) : LS H a (kV k) v (upd H a (.dK (putK kvs k v))) := .inl ⟨kvs, k, e, rfl, hl, rfl⟩
theorem LS.t {H : Hp} {a b : Addr} {kvs : List (List Key × V)} {k : List Key} {v : V} (e : H a = some (.dT kvs)) (eb : H b = some (.tup (k.map kV))) (hl : kvs.length < sizeLine) :
  LS H a (.ref b) v (upd H a (.dT (putK kvs k v))) := .inr ⟨kvs, k, b, e, rfl, eb, hl, rfl⟩
section
variable {X : Cx} {pins : List (Addr × Obj)} {σ : St} {H : Hp} {s : Shared} {a : Addr} {y v : V} {u r : Value} {o : Option V} {A : Around} {E : Value → Shared → Prop}
theorem Inv.big (I : Inv X pins σ H s) : sysModules < s.heap.objs.size := by
 have h : mainGlobals < s.heap.objs.size := (I.mod.glob.keeps I.bk).lt
 exact Nat.lt_trans (by decide) h
theorem DN {Q : Value → Shared → Prop} (hu : A.units + 1 < cLine) (I : Inv X pins σ H s) (g : KL H a y (some v)) (ry : RelV y u) (h : ∀ w' s', Inv X pins σ H s' → RelV v w' → Q w' s') :
  wpAny (model X.prog X.w) A (getItem (.ref a) u) Q E s := by
 rcases g with ⟨kvs, k, e, ey, l⟩ | ⟨kvs, k, b, e, ey, eb, l⟩
 ·subst ey
  obtain ⟨z, hd, vs, rel, dd⟩ := B6 I.hok e
  obtain ⟨w', hw, rw'⟩ := CO.some_of (v := v) (o := valueAt vs k) (by rw [l]; exact rel.val k)
  exact wpAny_getItem_of (UP ry) dd.mapOf hw (h w' _ (I.tok _) rw')
 ·subst ey
  cases (show u = Value.ref b from ry)
  obtain ⟨z, hd, xs, rel, dd⟩ := Fn I.hok e
  obtain ⟨w', hw, rw'⟩ := CO.some_of (v := v) (o := (atKey xs k).map (·.2)) (by rw [l]; exact rel.val k)
  obtain ⟨p, hp, hp2⟩ := Option.map_eq_some_iff.mp hw
  refine wpAny_getItem_heap (tupleKind_room_in1 hu) (Wr I.hok eb) dd hp ?_
  rw [hp2]
  exact h w' _ (I.tok _) rw'
theorem ZgQ {Q : Value → Shared → Prop} (hu : A.units + 1 < cLine) (I : Inv X pins σ H s) (g : KL H a y o) (ry : RelV y u) (h : ∀ s', Inv X pins σ H s' → Q (.bool o.isSome) s') :
  wpAny (model X.prog X.w) A (compareOp .In u (.ref a)) Q E s := by
 rcases g with ⟨kvs, k, e, ey, l⟩ | ⟨kvs, k, b, e, ey, eb, l⟩
 ·subst ey
  obtain ⟨z, hd, vs, rel, dd⟩ := B6 I.hok e
  refine wpAny_in_of (UP ry) hd dd.mapOf ?_
  rw [← (rel.val k).Jv, ← l]
  exact h _ (I.tok _)
 ·subst ey
  cases (show u = Value.ref b from ry)
  obtain ⟨z, hd, xs, rel, dd⟩ := Fn I.hok e
  refine wpAny_in_heap (tupleKind_room_in1 hu) (Wr I.hok eb) hd dd ?_
  have q := (rel.val k).Jv
  rw [Option.isSome_map] at q
  rw [← q, ← l]
  exact h _ (I.tok _)
theorem Ti {Q : Value → Shared → Prop} (hu : A.units + 1 < cLine) (I : Inv X pins σ H s) (g : KL H a y o) (ry : RelV y u) (h : ∀ s', Inv X pins σ H s' → Q (.bool (!o.isSome)) s') :
  wpAny (model X.prog X.w) A (compareOp .NotIn u (.ref a)) Q E s := by
 rcases g with ⟨kvs, k, e, ey, l⟩ | ⟨kvs, k, b, e, ey, eb, l⟩
 ·subst ey
  obtain ⟨z, hd, vs, rel, dd⟩ := B6 I.hok e
  refine wpAny_notIn_of (UP ry) hd dd.mapOf ?_
  rw [← (rel.val k).Jv, ← l]
  exact h _ (I.tok _)
 ·subst ey
  cases (show u = Value.ref b from ry)
  obtain ⟨z, hd, xs, rel, dd⟩ := Fn I.hok e
  refine wpAny_notIn_heap (tupleKind_room_in1 hu) (Wr I.hok eb) hd dd ?_
  have q := (rel.val k).Jv
  rw [Option.isSome_map] at q
  rw [← q, ← l]
  exact h _ (I.tok _)
theorem Gh {h' : Heap} {t' : Nat} {ob : HO} (I : Inv X pins σ H s) (mu : Mut (H a)) (hs : Heap.SameBut a s.heap h') (he : ∃ q, h'.get? a = some q) (new : Qh X.prog X.w (upd H a ob) h' a ob) :
  Inv X pins σ (upd H a ob) { s with heap := h', toks := t' } :=
 I.write (x := a) (e := a) mu (.inl rfl) (fun b q hb z => (hs.2 b hb).trans z) he new
theorem Df {P : Program} {w : World} {H' : Hp} {h' : Heap} {kvs : List (Key × V)} {vs : List (Key × Value)} (z : kvs.length ≤ sizeLine) (hd : (a == sysModules) = false) (rel : KV kvs vs) (dd : h'.DictOf (ZW P w) a vs) :
  Qh P w H' h' a (.dK kvs) := ⟨z, hd, vs, rel, dd⟩
theorem HL {H' : Hp} {Q : Unit → Shared → Prop} (hu : A.units + 1 < cLine) (I : Inv X pins σ H s) (g : LS H a y v H') (ry : RelV y u) (rv : RelV v r) (h : ∀ s', Inv X pins σ H' s' → Q () s') :
  wpAny (model X.prog X.w) A (setItem (.ref a) u r) Q E s := by
 rcases g with ⟨kvs, k, e, ey, l, eH⟩ | ⟨kvs, k, b, e, ey, eb, l, eH⟩
 ·subst ey eH
  obtain ⟨z, hd, vs, rel, dd⟩ := Sg I.hok e
  have hz : vs.length ≤ sizeLine := by rw [← rel.length]; exact z
  have hl : (putK kvs k v).length ≤ sizeLine := by have := Jc kvs k v; omega
  refine wpAny_setItem_pairs (hsz := hz) (UP ry) dd fun h' dd' hs => h _ ?_
  have he : ∃ q, h'.get? a = some q := let ⟨q, _, _, hq, _⟩ := dd'; ⟨q, hq⟩
  exact Gh I (by rw [e]; exact True.intro) hs he (Df hl hd (rel.put k rv) dd')
 ·subst ey eH
  cases (show u = Value.ref b from ry)
  obtain ⟨z, hd, xs, rel, dd⟩ := ZdU I.hok e
  have hz : xs.length ≤ sizeLine := by rw [← Paired.length rel]; exact z
  have hl : (putK kvs k v).length ≤ sizeLine := by have := Jc kvs k v; omega
  refine wpAny_setItem_heap (hsz := hz) (tupleKind_room_in1 hu) (Wr I.hok eb) dd fun h' dd' hs => h _ ?_
  obtain ⟨q, es, ep, hq, h2, h3, h4, _, h5⟩ := dd'
  refine Gh I (by rw [e]; exact True.intro) hs ⟨q, hq⟩ ⟨hl, hd, _, (rel.put k eb rv).keeps fun c ys ec => ?_, q, es, ep, hq, h2, h3, h4, h5⟩
  rw [ZC (ZdL ec e (fun z => nomatch z))]
  exact ec
end
section
variable {X : Cx} {pins : List (Addr × Obj)} {σ : St} {H : Hp} {s : Shared} {a : Addr} {kvs : List (Key × V)} {k : Key} {u : Value} {A : Around} {E : Value → Shared → Prop}
theorem ZaR {Q : Value → Shared → Prop} (I : Inv X pins σ H s) (e : Rd H a (.dK kvs)) (h : ∀ t s', Inv X pins σ H s' → Q (.int kvs.length t) s') : wpAny (model X.prog X.w) A (call (.builtin "len") [.ref a]) Q E s := by
 obtain ⟨z, hd, vs, rel, dd⟩ := B6 I.hok e
 refine call_len_dict hd dd (by rw [← rel.length]; rw [sizeLine_eq] at z; omega) ?_
 rw [← rel.length]
 exact h _ _ (I.tok _)
end
def ZbS (i : Expr) : Prop := ∀ ov iv, subscripted i false ov iv = operate [ov, iv] (getItem ov iv)
theorem Tf {prog : Program} {w : World} {A : Around} {E : Value → Shared → Prop} {s : Shared} {env : Env} {value slice : Expr} {pos : Pos} {T id : String} {Q : Value → Shared → Prop}
  (hl : typeLookup (.type T) "__getitem__" = pure (some (.builtin id))) (hs : ZbS slice)
  (h : wpAny (model prog w) A (eval value env) (fun o s₁ => wpAny (model prog w) A (eval slice env) (fun i s₂ => s₂.TypeIs o T ∧ wpAny (model prog w) A (getItem o i) Q E s₂) E s₁) E s) :
  wpAny (model prog w) A (eval (.Subscript value slice pos) env) Q E s := by
 refine Subscript_ (wpAny_mono h (fun o s₁ h₁ => wpAny_mono h₁ (fun i s₂ h₂ => ?_) fun _ _ x => x) fun _ _ x => x)
 obtain ⟨hT, h₂⟩ := h₂
 unfold subscriptTail
 refine wpAny_bind ?_
 rw [getitemInPython_of_ne hT.not_modules]
 refine wpAny_bind (wpAny_specialOf hT hl ?_)
 have fin : wpAny (model prog w) A (subscripted slice false o i) (fun r s₃ => wpAny (model prog w) A (letTemporaryGo value o r >>= fun _ => pure r) Q E s₃) E s₂ := by
  rw [hs o i]
  exact wpAny_operating (wpAny_mono h₂ (fun r s₃ h₃ => wpAny_bind (wpAny_letTemporaryGo (wpAny_pure h₃))) fun _ _ x => x)
 first
  | exact wpAny_pure (wpAny_bind fin)
  | exact wpAny_bind (wpAny_pure (wpAny_bind fin))
  | exact wpAny_bind fin
theorem Gm {X : Cx} {pins : List (Addr × Obj)} {σ : St} {H : Hp} {s : Shared} {a : Addr} {y : V} {o : Option V} (I : Inv X pins σ H s) (g : KL H a y o) : s.TypeIs (.ref a) "dict" := by
 rcases g with ⟨kvs, k, e, _, _⟩ | ⟨kvs, k, b, e, _, _, _⟩
 ·obtain ⟨_, _, vs, _, dd⟩ := B6 I.hok e
  exact dd.typeIs
 ·obtain ⟨_, _, xs, _, dd⟩ := Fn I.hok e
  exact dd.typeIs
def ZeU (td ty : TE) : TE := fun σ H Q => td σ H fun x H1 => ty σ H1 fun y H2 => ∃ a v, x = .ref a ∧ KL H2 a y (some v) ∧ Q v H2
def Zg5 (ty td : TE) : TE := fun σ H Q => ty σ H fun y H1 => td σ H1 fun x H2 => ∃ a o, x = .ref a ∧ KL H2 a y o ∧ Q (.bl o.isSome) H2
def Zd6 (ty td : TE) : TE := fun σ H Q => ty σ H fun y H1 => td σ H1 fun x H2 => ∃ a o, x = .ref a ∧ KL H2 a y o ∧ Q (.bl (!o.isSome)) H2
def ZeC (td ty tv : TE) : TS := fun D σ H => tv σ H fun v H1 => td σ H1 fun x H2 => ty σ H2 fun y H3 => ∃ a H4, x = .ref a ∧ LS H3 a y v H4 ∧ D.nx σ H4
def Zg2 (td ty tv : TE) (rd : V → V → Hp → VK → Prop) : TS := fun D σ H => td σ H fun x H1 => ty σ H1 fun y H2 => ∃ a v, x = .ref a ∧ KL H2 a y (some v) ∧
 tv σ H2 fun y2 H3 => rd v y2 H3 fun z H4 => ∃ H5, LS H4 a y z H5 ∧ D.nx σ H5
def Zgu (td ty : TE) : TS := fun D σ H => td σ H fun x H1 => ty σ H1 fun y H2 => ∃ a kvs k, x = .ref a ∧ H2 a = some (.dK kvs) ∧ y = kV k ∧ (V7 kvs k).isSome = true ∧ D.nx σ (upd H2 a (.dK (RN kvs k)))
section
variable {X : Cx} {o i e value : Expr} {pos pos' tpos : Pos} {td ty tv : TE}
theorem Uu (hu : X.A.units + 1 < cLine) (ho : PE X o td) (hi : PE X i ty) (hs : ZbS i) : PE X (.Subscript o i pos) (ZeU td ty) := by
 intro pins s σ H Q I h
 refine Tf PySem.F.slot_dict_getitem.lookup hs (thn (ho pins s σ H _ I h) fun u s1 ⟨x, H1, I1, rx, q1⟩ => thn (hi pins s1 σ H1 _ I1 q1) fun iv s2 ⟨y, H2, I2, ry, a, v, ex, g, q2⟩ => ?_)
 subst ex
 obtain rfl : u = Value.ref a := rx
 exact ⟨Gm I2 g, DN hu I2 g ry fun w' s3 I3 rw' => ⟨v, H2, I3, rw', q2⟩⟩
theorem EC (hu : X.A.units + 1 < cLine) (ho : PE X o td) (hi : PE X i ty) (hv : PE X value tv) (hs : swapsWith value (some (.Subscript o i pos')) pos.line X.env = pure false) :
  PS X (.Assign [.Subscript o i pos'] value pos) (ZeC td ty tv) := by
 intro pins s σ H D I h
 refine wpAny_Assign_Subscript (thn (hv pins s σ H _ I h) fun r s1 ⟨v, H1, I1, rv, q1⟩ => thn (ho pins s1 σ H1 _ I1 q1) fun u s2 ⟨x, H2, I2, rx, q2⟩ => thn (hi pins s2 σ H2 _ I2 q2) fun iv s3 ⟨y, H3, I3, ry, a, H4, ex, g, q3⟩ => ?_) hs
 subst ex
 obtain rfl : u = Value.ref a := rx
 exact HL hu I3 g ry rv fun s4 I4 => ⟨σ, H4, I4, q3⟩
end
theorem BO {P : Program} {w : World} {H : Hp} (h : Heap) (hb : sysModules < h.objs.size) : Qh P w H (h.push { cls := .type "dict", data := .dict #[] }) h.objs.size (.dK []) :=
 ⟨Nat.zero_le _, beq_eq_false_iff_ne.mpr (Ne.symm (Nat.ne_of_lt hb)), [], .nil, Heap.DictOf.new h⟩
def Zci : TE := fun _ H Q => ∀ p, H p = none → Q (.ref p) (upd H p (.dK []))
def Zfx : TE := fun _ H Q => ∀ p, H p = none → Q (.ref p) (upd H p (.dT []))
section
variable {X : Cx} {pos : Pos}
theorem Lo : PE X (.Dict [] [] pos) Zci := fun pins s σ H Q I h =>
 wpAny_Dict_empty ⟨.ref s.heap.objs.size, _, I.laid (a := s.heap.objs.size) (o := .dK []) (t' := s.toks) (fun _ _ q => Heap.get?_push_of_some _ q) (Nat.le_refl _) (BO s.heap I.big), rfl, h _ (I.hok.fresh (Nat.le_refl _))⟩
end
def GQ : List (TE × TE) → St → Hp → (List (V × V) → Hp → Prop) → Prop
 | [], _, H, Q => Q [] H
 | (tk, tv) :: r, σ, H, Q => tk σ H fun x H1 => tv σ H1 fun y H2 => GQ r σ H2 fun ps H3 => Q ((x, y) :: ps) H3
abbrev VV : List (V × V) → List (Value × Value) → Prop := Paired fun p q => RelV p.1 q.1 ∧ RelV p.2 q.2
def PPs (X : Cx) (pos : Pos) (keys : List (Option Expr)) (values : List Expr) (trs : List (TE × TE)) : Prop :=
 ∀ (pins : List (Addr × Obj)) (s : Shared) (σ : St) (H : Hp) (Q : List (V × V) → Hp → Prop), Inv X pins σ H s → GQ trs σ H Q →
  wpAny (model X.prog X.w) X.A (evalPairs (pairTrees keys values X.env pos)) (fun vs s' => ∃ ps H', Inv X pins σ H' s' ∧ VV ps vs ∧ Q ps H') X.xe s
theorem Rw {X : Cx} {pos : Pos} : PPs X pos [] [] [] := fun pins s σ H Q I h => pairTrees_nil_walk ⟨[], H, I, .nil, h⟩
theorem MP {X : Cx} {pos : Pos} {k v : Expr} {ks : List (Option Expr)} {vs : List Expr} {tk tv : TE} {trs : List (TE × TE)} (hk : PE X k tk) (hv : PE X v tv) (hr : PPs X pos ks vs trs) :
  PPs X pos (some k :: ks) (v :: vs) ((tk, tv) :: trs) := fun pins s σ H Q I h =>
 pairTrees_cons_walk (thn (hk pins s σ H _ I h) fun u s1 ⟨x, H1, I1, rx, q1⟩ => thn (hv pins s1 σ H1 _ I1 q1) fun w2 s2 ⟨y, H2, I2, ry, q2⟩ =>
  thn (hr pins s2 σ H2 _ I2 q2) fun ws s3 ⟨ps, H3, I3, rel, q3⟩ => ⟨(x, y) :: ps, H3, I3, .cons ⟨rx, ry⟩ rel, q3⟩)
noncomputable def YT (kvs more : List (Key × V)) : List (Key × V) := more.foldl (fun acc kv => putK acc kv.1 kv.2) kvs
theorem KV.merge : ∀ {more : List (Key × V)} {rs : List (Key × Value)} {kvs : List (Key × V)} {vs : List (Key × Value)}, KV more rs → KV kvs vs → KV (YT kvs more) (merged vs rs) := by
 intro more rs kvs vs r
 unfold KV at r
 induction r generalizing kvs vs with
 | nil => intro q; exact q
 | @cons p q ps qs h t ih =>
  intro r0
  have e : KV (putK kvs p.1 p.2) (stored vs q.1 q.2) := by
   have := r0.put p.1 h.2
   rw [← h.1]; exact this
  exact ih e
theorem Vp : ∀ (more kvs : List (Key × V)), (YT kvs more).length ≤ kvs.length + more.length
 | [], kvs => by show kvs.length ≤ kvs.length + 0; omega
 | p :: r, kvs => by
  have h1 := Vp r (putK kvs p.1 p.2)
  have h2 := Jc kvs p.1 p.2
  show (YT (putK kvs p.1 p.2) r).length ≤ _
  rw [List.length_cons]; omega
theorem Xh {P : Program} {w : World} : ∀ {kvs : List (Key × V)} {ws : List (Value × Value)}, VV (kvs.map fun kv => (kV kv.1, kv.2)) ws → ∃ rs, Carries (ZW P w) ws rs ∧ KV kvs rs
 | [], _, r => by rw [List.map_nil] at r; cases r; exact ⟨[], True.intro, .nil⟩
 | p :: kvs, _, r => by
  rw [List.map_cons] at r
  cases r with
  | @cons a b as bs h t =>
   obtain ⟨rs, c, q⟩ := Xh (P := P) (w := w) t
   obtain ⟨b1, b2⟩ := b
   exact ⟨(p.1, b2) :: rs, ⟨UP h.1, rfl, c⟩, .cons ⟨rfl, h.2⟩ q⟩
def Zd8 (trs : List (TE × TE)) : TE := fun σ H Q => ∀ p, H p = none → GQ trs σ (upd H p (.dK [])) fun ps H2 => H2 p = some (.dK []) ∧ ∃ kvs : List (Key × V), ps = kvs.map (fun kv => (kV kv.1, kv.2)) ∧ kvs.length ≤ 15 ∧ Q (.ref p) (upd H2 p (.dK (YT [] kvs)))
theorem PR {X : Cx} {pos : Pos} {keys : List (Option Expr)} {values : List Expr} {trs : List (TE × TE)} (h : PPs X pos keys values trs) (hall : keys.all (·.isSome) = true) (hl : keys.length = values.length) (h0 : keys ≠ [])
  (h15 : keys.length ≤ 15) : PE X (.Dict keys values pos) (Zd8 trs) := by
 intro pins s σ H Q I q
 have hn := I.hok.fresh (Nat.le_refl s.heap.objs.size)
 have I1 := I.laid (a := s.heap.objs.size) (o := .dK []) (h' := s.heap.push { cls := .type "dict", data := .dict #[] }) (t' := s.toks) (fun _ _ q => Heap.get?_push_of_some _ q) (Nat.le_refl _) (BO s.heap I.big)
 refine wpAny_Dict_walk (knd := ZW X.prog X.w) hall hl h0 h15 (thn (h pins _ σ _ _ I1 (q _ hn)) fun ws s2 ⟨ps, H2, I2, rel, e, kvs, ep, lk, q2⟩ => ?_)
 subst ep
 obtain ⟨rs, c, rk⟩ := Xh (P := X.prog) (w := X.w) rel
 obtain ⟨z, hd, vs0, r0, dd⟩ := Sg I2.hok e
 cases r0
 refine ⟨rs, c, dd, fun h' dd' hs => ⟨.ref s.heap.objs.size, _, ?_, rfl, q2⟩⟩
 have hz : (YT [] kvs).length ≤ sizeLine := by
  have h1 := Vp kvs []
  rw [List.length_nil] at h1
  rw [sizeLine_eq]; omega
 have he : ∃ q, h'.get? s.heap.objs.size = some q := let ⟨q, _, _, hq, _⟩ := dd'; ⟨q, hq⟩
 exact Gh I2 (by rw [e]; exact True.intro) hs he (Df hz hd (rk.merge .nil) dd')
structure M1 (X : Cx) (o : Expr) (m : Str) (apos : Pos) (e : Expr) (cpos : Pos) : Prop where
 base : attributeBase o m X.env (eval o X.env) = eval o X.env
 few : ((backTo cpos (starEach [e] X.env)).all (fun x => !x.1) && (backToKw cpos (keywordEach [] X.env)).all (fun x => x.1.isSome)
  && decide (([e] : List Expr).length + ([] : List Keyword).length + (if ([] : List Keyword).isEmpty then 0 else 1) < 30)) = true
 line : (apos.endLine == cpos.line) = true
 trees : backTo cpos (starEach [e] X.env) = [(false, eval e X.env)]
structure M2 (X : Cx) (o : Expr) (m : Str) (apos : Pos) (e f : Expr) (cpos : Pos) : Prop where
 base : attributeBase o m X.env (eval o X.env) = eval o X.env
 few : ((backTo cpos (starEach [e, f] X.env)).all (fun x => !x.1) && (backToKw cpos (keywordEach [] X.env)).all (fun x => x.1.isSome)
  && decide (([e, f] : List Expr).length + ([] : List Keyword).length + (if ([] : List Keyword).isEmpty then 0 else 1) < 30)) = true
 line : (apos.endLine == cpos.line) = true
 trees : backTo cpos (starEach [e, f] X.env) = [(false, eval e X.env), (false, eval f X.env)]
def IsD (H : Hp) (a : Addr) : Prop := (∃ kvs, Rd H a (.dK kvs)) ∨ ∃ kvs, Rd H a (.dT kvs)
section
variable {X : Cx} {pins : List (Addr × Obj)} {σ : St} {H : Hp} {s : Shared} {a : Addr} {y d : V} {u r : Value} {o : Option V} {A : Around} {E : Value → Shared → Prop}
end
def ZfP (td ty : TE) : TE := fun σ H Q => td σ H fun x H1 => ∃ a, x = .ref a ∧ IsD H1 a ∧ ty σ H1 fun y H2 => ∃ o, KL H2 a y o ∧ Q (o.getD .non) H2
def Ze8 (td ty tx : TE) : TE := fun σ H Q => td σ H fun x H1 => ∃ a, x = .ref a ∧ IsD H1 a ∧ ty σ H1 fun y H2 => tx σ H2 fun z H3 => ∃ o, KL H3 a y o ∧ Q (o.getD z) H3
def Zfq (td ty : TE) : TE := fun σ H Q => td σ H fun x H1 => ∃ a, x = .ref a ∧ IsD H1 a ∧ ty σ H1 fun y H2 => ∃ kvs k v, H2 a = some (.dK kvs) ∧ y = kV k ∧ V7 kvs k = some v ∧ Q v (upd H2 a (.dK (RN kvs k)))
def ZeZ (td ty tx : TE) : TE := fun σ H Q => td σ H fun x H1 => ∃ a, x = .ref a ∧ IsD H1 a ∧ ty σ H1 fun y H2 => tx σ H2 fun z H3 => ∃ kvs k, H3 a = some (.dK kvs) ∧ y = kV k ∧
 (∀ v, V7 kvs k = some v → Q v (upd H3 a (.dK (RN kvs k)))) ∧ (V7 kvs k = none → Q z H3)
section
variable {X : Cx} {o e f : Expr} {apos cpos : Pos} {td ty tx : TE}
end
section
variable {X : Cx} {pins : List (Addr × Obj)} {σ : St} {H : Hp} {s : Shared} {a : Addr} {kvs : List (Key × V)} {A : Around} {E : Value → Shared → Prop}
end
section
variable {X : Cx} {pins : List (Addr × Obj)} {σ : St} {H : Hp} {s : Shared} {a : Addr} {y : V} {u : Value} {A : Around} {E : Value → Shared → Prop}
end
end L2
namespace Att
open PySem PySem.W PySem.Calls PyProof.Rows
theorem YN {P : Params} {h : Heap} : ∀ (ns : List Int) (vs : List Value), WellAll P h vs (ns.map WData.int) → IntsAre vs ns := by
 intro ns
 induction ns with
 | nil =>
  intro vs w
  rw [List.map_nil] at w
  cases w
  exact .nil
 | cons n ns ih =>
  intro vs w
  rw [List.map_cons] at w
  cases w with
  | cons a b =>
   cases a
   exact .cons _ _ (ih _ b)
theorem D3 {l : OpenLaw} {n : Nat} (hn : l.most = some n) {P : Params} {h : Heap} {args : List WData} {vals : List Value}
  (hpre : l.row.toRowW.claim.pre args = true) (hwl : WellAll P h vals args) :
  ∃ a vs ns, vals = [Value.ref a] ∧ args = [WData.list (ns.map WData.int)] ∧ h.get? a = some { cls := .type "list", data := .seq vs.toArray } ∧ IntsAre vs ns ∧ ns.length ≤ n := by
 have hsh : WShape.hasAll [] args [.list .int] = true := (pre_splitW hpre).1
 have hc : l.pre.holds [] { args := args } = true := (pre_splitW hpre).2
 obtain ⟨d, r, rfl, h1, h2⟩ := hasAllW_cons hsh
 obtain rfl := hasAllW_nil h2
 obtain ⟨xs, rfl, h3⟩ := hasW_list h1
 obtain ⟨ns, rfl⟩ := items_int h3
 have hlen : ns.length ≤ n := by
  unfold OpenLaw.pre at hc
  have h4 : (WTm.not (.lt (.lit (.int (n : Int))) (.len (.arg 0)))).holds [] { args := [.list (ns.map .int)] } = true := by
   have h4 := (holds_andW hc).1
   rw [hn] at h4
   exact h4
  have h5 := condW_of h4 (w_not (w_lt w_lit (w_len_list (w_arg rfl))))
  rw [List.length_map] at h5
  refine Nat.le_of_not_lt fun q => ?_
  have q' : (n : Int) < ((ns.length : Nat) : Int) := by omega
  first
   | (rw [decide_eq_true q'] at h5; exact absurd h5 (by decide))
   | (simp at h5; omega)
 cases hwl with
 | cons w1 w2 =>
  cases w2
  cases w1 with
  | list ho hall => exact ⟨_, _, ns, rfl, rfl, ho, YN ns _ hall, hlen⟩
theorem Hf (l : OpenLaw) (args : List WData) : l.row.toRowW.claim.post args (.bool true) args = true :=
 postW_of (r := l.row.toRowW) (X := (true == true))
  (show WShape.has [] (.bool true) .bool = true by first | rfl | decide | simp [WShape.has, WShape.arms, WShape.armsAll])
  (show (WTm.eq .res (.lit (.bool true))).value [] { args := args, res := some (.bool true), after := args } = some (.bool (true == true)) from w_eq_bool (w_res rfl) w_lit) rfl
theorem UX {l : OpenLaw} {n : Nat} {q : Program} {loose : List Str} {XP : (Str → Option Value) → Heap → Prop} {YP : World → Heap → Prop} {d : DefRec}
  (hn : l.most = some n) (hdf : d.params.defaults = [])
  (call : ∀ (w : World) (s₀ s₁ : Shared) (mg mb : Str → Option Value) (fa : Addr) (o : Obj) (pm cd doc : Value) (a : Addr) (vs : List Value) (ns : List Int),
   Ground q loose [] XP w s₀ mg mb s₁.heap → YP w s₁.heap →
   s₁.heap.get? fa = some o → o.data = .func (docDef d.name d.params d.body d.scope pm cd doc) → s₁.heap.CodeRec cd d.name → mg d.name = some (.ref fa) →
   s₁.heap.get? a = some { cls := .type "list", data := .seq vs.toArray } → IntsAre vs ns → ns.length ≤ n → s₁.gens = #[] →
   codeAny (model l.prog w) callerA (.call (.ref fa) ⟨[.ref a], []⟩) (fun r s' => r = .ok (.ret (.bool true)) ∧ OldK s₁.heap s'.heap ∧ s'.os = s₁.os ∧ AllBare s'.gens) s₁) :
  WalkO q loose XP YP l.row.toRowW d [] (fun f vs => PySem.call f vs) := by
 intro w s₀ s₁ mg mb G Y fa o pm cd doc dV kV ho hd hcd hD hmg hg args vals as hpre hlay hrd hwl hlo
 obtain rfl : dV = .none := Dflts.none hD hdf
 obtain rfl : kV = .none := Dflts.noKw hD
 obtain ⟨a, vs, ns, rfl, rfl, hobj, hints, hlen⟩ := D3 hn hpre hwl
 refine enter_call (codeAny_mono (call w s₀ s₁ mg mb fa o pm cd doc a vs ns G Y ho (fd_plain hd) hcd hmg hobj hints hlen hg) fun r s' hq => ?_)
 obtain ⟨rfl, h2, h3, h4⟩ := hq
 exact ⟨.inl ⟨.bool true, .bool true, [], rfl, fun _ => rfl, .bool true, Hf l _, fun _ => ⟨List.Pairwise.nil, fun _ hm => (nomatch hm)⟩⟩, h2, h3, h4⟩
section
variable {prog : Program} {w : World} {A : Around} {E : Value → Shared → Prop} {s : Shared} {K : Frag}
noncomputable def Zft (h : Heap) : Heap := { h with objs := #[] }
noncomputable def ledger (h : Heap) (L d : Addr) : List (Addr × Obj) := (List.range h.objs.size).filterMap fun a => if a = L ∨ a = d then none else (h.get? a).map fun o => (a, o)
end
end Att
namespace L2
open PySem PySem.Spec PyProof.Rows
theorem WZ : ∀ {vs : List Value} {ns : List Int}, IntsAre vs ns → Vals (ns.map V.int) vs
 | _, _, .nil => .nil
 | _, _, .cons n t h => .cons ⟨t, rfl⟩ (WZ h)
def Zdp (H : Hp) : Prop := ∀ b, H b = none ∨ ∃ o xs, H b = some (.frz o (.lst xs))
theorem MN {P : Program} {w : World} {K : PySem.W.Frag} {mg mb : Str → Option Value} {CX : CXT} {k : Nat} {fa a : Addr} {fd : FuncData} {x : Str} {sp : Sp} {s₁ : Shared} {vs : List Value} {ns : List Int}
  (KX : K.In s₁.heap) (hns : s₁.heap.Ns mainGlobals mg) (hb : s₁.heap.Ns builtinsNs mb) (hbb : ∀ x : Str, x ≠ "__name__" → mb x = bootBuiltins x) (hlim : s₁.heap.NoLimit) (hg : s₁.gens = #[])
  (ha : s₁.heap.get? a = some { cls := .type "list", data := .seq vs.toArray }) (hi : IntsAre vs ns) (hl : ns.length ≤ sizeLine) (hr : Ji k callerA)
  (F : ∀ base : Heap, K.In base → base.Ns mainGlobals mg → ZT P w K mg base CX k fa fd [x] sp) (hbind : ∀ (s : Shared) (u : Value), BindsTo s fd ⟨[u], []⟩ [(x, u)])
  (hsp : ∀ H : Hp, Zdp H → SqL K H a (ns.map V.int) → sp [.ref a] H (fun v _ => v = .bl true) fun _ _ _ => False)
  (hCX : ∀ H e s', CX [] H s₁ (fun _ _ _ => False) e s' → False) :
  codeAny (model P w) callerA (.call (.ref fa) ⟨[.ref a], []⟩) (fun r s' => r = .ok (.ret (.bool true)) ∧ OldK s₁.heap s'.heap ∧ s'.os = s₁.os ∧ AllBare s'.gens) s₁ := by
 have rv := WZ hi
 have lenV := hi.length
 have core : ∀ H : Hp, Zdp H → SqL K H a (ns.map V.int) → HOk P w H s₁.heap → (∀ b, H b ≠ none → b = a) → (H a ≠ none → K.lookup a = none) →
   codeAny (model P w) callerA (.call (.ref fa) ⟨[.ref a], []⟩) (fun r s' => r = .ok (.ret (.bool true)) ∧ OldK s₁.heap s'.heap ∧ s'.os = s₁.os ∧ AllBare s'.gens) s₁ := by
  intro H hO hS hok hA hK
  have base_of : ∀ {b : Addr} {o : Obj}, s₁.heap.get? b = some o → H b = none → (MB s₁.heap H).get? b = some o := fun e n => Lb e n
  have noA : ∀ {b : Addr} {o : Obj} {es : Array DictEntry} {ep : Nat}, s₁.heap.get? b = some o → o.data = .dict es ep → H b = none := fun {b o es ep} e d => by
   cases q : H b with
   | none => rfl
   | some u =>
    have e' : b = a := hA b (by rw [q]; simp)
    subst e'
    rw [ha] at e; cases e
    have d' : Data.seq vs.toArray _ = Data.dict es ep := d
    cases d'
  have nsK : ∀ {b : Addr} {m : Str → Option Value}, s₁.heap.Ns b m → (MB s₁.heap H).Ns b m := fun {b m} ⟨o, es, ep, e, d, r⟩ => ⟨o, es, ep, base_of e (noA e d), d, r⟩
  have hKb : K.In (MB s₁.heap H) := fun b o e => base_of (KX b o e) (by
   cases q : H b with
   | none => rfl
   | some u =>
    have e' : b = a := hA b (by rw [q]; simp)
    subst e'
    rw [hK (by rw [q]; simp)] at e; cases e)
  have hM : Mod K mg (MB s₁.heap H) := ⟨hKb, nsK hns, ⟨mb, nsK hb, hbb⟩, let ⟨mc, h1, h2⟩ := hlim; ⟨mc, nsK h1, h2⟩⟩
  have e0 : Zdd P w K mg (MB s₁.heap H) callerA [] s₁ H := ⟨rfl, hM, fun b o e => RZ e, Nat.le_of_eq (Hk _ _), trivial, fun b hb => absurd (show b ∈ ([] : List Addr) from hb) (by simp), hok, .of_eq hg⟩
  refine codeAny_mono ((F _ hKb (nsK hns)).run callerA [] s₁ H ⟨[.ref a], []⟩ [.ref a] [.ref a] _ _ hr e0 (hbind s₁ (.ref a)) (.cons rfl .nil) (hsp H hO hS)) fun r s' h => ?_
  cases r with
  | error e => exact (hCX H e s' h).elim
  | ok fl =>
   cases fl with
   | next => exact False.elim h
   | brk => exact False.elim h
   | cont => exact False.elim h
   | ret u =>
    obtain ⟨v, H', os, bare, un, hok', r', q⟩ := h
    have q' : v = .bl true := q
    subst q'
    obtain rfl : u = Value.bool true := r'
    refine ⟨rfl, OldK.of_keep fun b o e => ?_, os, bare⟩
    cases q : H b with
    | none => exact un.keep b o e q (by intro z; exact absurd (show b ∈ ([] : List Addr) from z) (by simp)) (by simp)
    | some u =>
     rcases hO b with z | ⟨ob, xs, z⟩
     ·rw [q] at z; cases z
     ·have z2 := un.frzs b ob _ z
      obtain ⟨e1, _⟩ := hok b _ z
      obtain ⟨e2, _⟩ := hok' b _ z2
      rw [e] at e1; cases e1
      exact e2
 cases hk : K.lookup a with
 | some o =>
  have e := KX a o hk
  rw [ha] at e
  cases e
  refine core (fun _ => none) (fun _ => .inl rfl) (.inr ⟨_, vs.toArray, _, hk, rfl, rfl, rfl, by rw [List.size_toArray, lenV]; exact hl, by simpa using rv⟩) (fun b u z => by have z' : (none : Option HO) = some u := z; cases z') (fun b z => absurd rfl z) fun z => absurd rfl z
 | none =>
  refine core (fun b => if b = a then some (.frz { cls := .type "list", data := .seq vs.toArray } (.lst (ns.map V.int))) else none) (fun b => ?_) (.inl (.inr ⟨{ cls := .type "list", data := .seq vs.toArray }, if_pos rfl⟩)) (fun b u z => ?_) (fun b z => ?_) fun _ => hk
  ·by_cases hb : b = a
   ·exact .inr ⟨_, _, if_pos hb⟩
   ·exact .inl (if_neg hb)
  ·by_cases hb : b = a
   ·have z' := (if_pos hb).symm.trans z
    cases z'
    subst hb
    exact ⟨ha, by rw [List.length_map]; exact hl, vs, _, rv, ha⟩
   ·have z' := (if_neg hb).symm.trans z
    cases z'
  ·by_cases hb : b = a
   ·exact hb
   ·exact absurd (if_neg hb) z
end L2
namespace L2
open PySem PySem.Spec PyProof.Rows
noncomputable abbrev KOf {K : PySem.W.Frag} {h : Heap} (_ : K.In h) : PySem.W.Frag := K
theorem Tq {l : PySem.W.OpenLaw} {n k : Nat} {q : Program} {loose : List Str} {XP : (Str → Option Value) → Heap → Prop} {YP : World → Heap → Prop} {d : DefRec} {K : Params → PySem.W.Frag} {CX : World → CXT} {sp : World → Sp} {x : Str}
  (hn : l.most = some n) (hn2 : n ≤ sizeLine) (hdf : d.params.defaults = []) (hr : Ji k callerA)
  (hY : ∀ (w : World) (h : Heap), YP w h → (K w.params).In h)
  (F : ∀ (w : World) (mg : Str → Option Value) (fa : Addr) (h : Heap), (K w.params).In h → h.Ns mainGlobals mg → mg d.name = some (.ref fa) →
   ∃ fd : FuncData, (∀ (s : Shared) (u : Value), BindsTo s fd ⟨[u], []⟩ [(x, u)]) ∧
    ∀ base : Heap, (K w.params).In base → base.Ns mainGlobals mg → ZT l.prog w (K w.params) mg base (CX w) k fa fd [x] (sp w))
  (hsp : ∀ (w : World) (H : Hp) (a : Addr) (ns : List Int), ns.length ≤ n → Zdp H → SqL (K w.params) H a (ns.map V.int) → sp w [.ref a] H (fun v _ => v = .bl true) fun _ _ _ => False)
  (hCX : ∀ (w : World) (H : Hp) (s : Shared) (e : Value) (s' : Shared), CX w [] H s (fun _ _ _ => False) e s' → False) :
  PySem.W.WalkO q loose XP YP l.row.toRowW d [] (fun f vs => PySem.call f vs) := by
 refine Att.UX hn hdf fun w s₀ s₁ mg mb fa o pm cd doc a vs ns G Y ho hd hcd hmg hobj hints hlen hg => ?_
 have KX := hY w _ Y
 obtain ⟨fd, hb, hF⟩ := F w mg fa _ KX G.T.g hmg
 exact MN KX G.T.g G.T.b G.T.builtins G.T.nolimit hg hobj hints (Nat.le_trans hlen hn2) hr hF hb (fun H hO hS => hsp w H a ns hlen hO hS) fun H e s' => hCX w H s₁ e s'
end L2
namespace L2
open PySem PySem.Spec PyProof.Rows
noncomputable def inClass (s : Stmt) (j : Nat) : Stmt := match s with
 | .ClassDef _ _ _ body _ _ _ _ _ _ _ => body.getD j (.Pass ⟨0, 0, 0, 0⟩)
 | _ => .Pass ⟨0, 0, 0, 0⟩
noncomputable def Zu (s : Stmt) : Arguments := match s with
 | .FunctionDef _ a _ _ _ _ _ _ _ _ => a
 | _ => { posonlyargs := [], args := [], vararg := none, kwonlyargs := [], kw_defaults := [], kwarg := none, defaults := [] }
noncomputable def Zq (s : Stmt) : List Stmt := match s with
 | .FunctionDef _ _ b _ _ _ _ _ _ _ => b
 | _ => []
noncomputable def Zf (s : Stmt) : Scope := match s with
 | .FunctionDef _ _ _ _ _ _ sc _ _ _ => sc
 | _ => { kind := .function, names := [], isGenerator := false, isCoroutine := false }
abbrev CX0 : CXT := fun _ _ _ _ _ _ => False
abbrev E0 : XK := fun _ _ _ => False
theorem Zx {X : Cx} : Passes CX0 X E0 := fun _ _ _ _ _ _ _ h => h.elim
structure Fun (K : PySem.W.Frag) (x qual : Str) (st : Stmt) (f : Addr) (fd : FuncData) : Prop where
 ex : ∃ (oc : Value) (od : Option Addr) (kV doc pm : Value) (an : Option Addr) (cdv ct : Value) (osl : Array (Option Value)),
  fd = PySem.W.fnOf x qual (Zu st) (Zq st) (Zf st) .none kV doc pm an cdv ct ∧ K.lookup f = some ⟨oc, od, .func fd, osl⟩ ∧ PySem.W.codeIn K cdv qual = true
 kp : PySem.W.keepIn K (.ref f) = true
section
variable {P : Program} {w : World} {K : PySem.W.Frag} {mg : Str → Option Value} {base : Heap}
theorem Fun.ok {x qual : Str} {st : Stmt} {f : Addr} {fd : FuncData} {N ps : List Str} {k : Nat} {sp : Sp} (F : Fun K x qual st f fd) (S : Zt N ps (Zf st)) (len : ∀ vs H Q E, sp vs H Q E → vs.length = ps.length)
  (hbody : ∀ (cdv : Value) (A : Around) (outer : List Env) (s : Shared) (H : Hp) (vs : List V) (Q : VK) (E : XK), Ji k (A.deeper (envOfC qual (Zf st) s.heap.objs.size f cdv)) → sp vs H Q E →
   ∃ t, PSs (Ob CX0 P w K mg base N qual (Zf st) f cdv A outer s H E).nox (Zq st) t ∧ t { nx := fun _ H' => Q .non H', rt := Q } (start N vs) H) : ZT P w K mg base CX0 (k + 1) f fd ps sp := by
 obtain ⟨oc, od, kV, doc, pm, an, cdv, ct, osl, rfl, lk, hcd⟩ := F.ex
 refine ZdK lk hcd S len fun A outer s H vs Q E hr hsp => ?_
 obtain ⟨t, h, q⟩ := hbody cdv A outer s H vs Q E hr hsp
 exact ⟨t, h.nox, q⟩
theorem Fun.binds {x qual : Str} {st : Stmt} {f : Addr} {fd : FuncData} {ps : List Str} (F : Fun K x qual st f fd)
  (h : ∀ (kV doc pm : Value) (an : Option Addr) (cdv ct : Value) (us : List Value), us.length = ps.length → bindArgs (PySem.W.fnOf x qual (Zu st) (Zq st) (Zf st) .none kV doc pm an cdv ct) ⟨us, []⟩ = pure (ps.zip us)) : Binds K fd ps [] := by
 obtain ⟨oc, od, kV, doc, pm, an, cdv, ct, osl, rfl, lk, hcd⟩ := F.ex
 exact .all (h kV doc pm an cdv ct)
theorem ZQ {x qual : Str} {st : Stmt} {f : Addr} {oc : Value} {od an : Option Addr} {osl : Array (Option Value)} {kV doc pm cdv ct : Value} (l : K.lookup f = some ⟨oc, od, .func (PySem.W.fnOf x qual (Zu st) (Zq st) (Zf st) .none kV doc pm an cdv ct), osl⟩)
  (c : PySem.W.codeIn K cdv qual = true) (k : PySem.W.keepIn K (.ref f) = true) : Fun K x qual st f (PySem.W.fnOf x qual (Zu st) (Zq st) (Zf st) .none kV doc pm an cdv ct) := ⟨⟨oc, od, kV, doc, pm, an, cdv, ct, osl, rfl, l, c⟩, k⟩
end
section
variable {X : Cx}
end
def TM (H H' : Hp) : Prop := ∀ b o, H b = some o → H' b = some o
theorem TM.refl (H : Hp) : TM H H := fun _ _ h => h
theorem TM.trans {H H1 H2 : Hp} (a : TM H H1) (b : TM H1 H2) : TM H H2 := fun c o h => b c o (a c o h)
end L2
namespace DL
open PySem PySem.Spec PyProof.Rows L2
inductive DV where
 | dat (d : PyData)
 | own (a : Addr)
 | ty (n : String)
inductive OO where
 | lst (ds : List PyData)
  | dct (ks : List (List Key))
  | dtv (kvs : List (List Key × PyData))
  | dkv (kvs : List (Key × PyData))
  | dko (kvs : List (Key × DV))
  | fdk (o : Obj) (kvs : List (Key × PyData))
  | ext (φ : Heap → Prop)
abbrev Mp := Addr → Option OO
noncomputable def Zv (M : Mp) (a : Addr) (o : OO) : Mp := fun b => if b = a then some o else M b
noncomputable def J5 (M : Mp) (a : Addr) : Mp := fun b => if b = a then none else M b
theorem Zn {M : Mp} {a : Addr} {o : OO} : Zv M a o a = some o := by unfold Zv; rw [if_pos rfl]
theorem Zp {M : Mp} {a b : Addr} {o : OO} (h : b ≠ a) : Zv M a o b = M b := by unfold Zv; rw [if_neg h]
theorem WD {M : Mp} {a : Addr} {o u : OO} : Zv (Zv M a o) a u = Zv M a u := by
 funext b; unfold Zv; split <;> rfl
theorem Wi {M : Mp} {a : Addr} : J5 M a a = none := by unfold J5; rw [if_pos rfl]
theorem VF {M : Mp} {a b : Addr} (h : b ≠ a) : J5 M a b = M b := by unfold J5; rw [if_neg h]
noncomputable def kD : Key → PyData
 | .inl i => .int i
 | .inr x => .str x
def KTu (K : PySem.W.Frag) (a : Addr) (xs : List V) : Prop :=
 ∃ (o : Obj) (its : Array Value) (n : Nat), K.lookup a = some o ∧ o.cls = .type "tuple" ∧ o.data = .seq its n ∧ its.size ≤ sizeLine ∧ Vals xs its.toList
def KLs (K : PySem.W.Frag) (a : Addr) (xs : List V) : Prop :=
 ∃ (o : Obj) (its : Array Value) (n : Nat), K.lookup a = some o ∧ o.cls = .type "list" ∧ o.dict = none ∧ o.data = .seq its n ∧ its.size ≤ sizeLine ∧ Vals xs its.toList
def TupAt (K : PySem.W.Frag) (M : Mp) (H : Hp) (a : Addr) (xs : List V) : Prop := (M a = none ∧ Rd H a (.tup xs)) ∨ KTu K a xs
def LstAt (K : PySem.W.Frag) (M : Mp) (H : Hp) (a : Addr) (xs : List V) : Prop := (M a = none ∧ Rd H a (.lst xs)) ∨ KLs K a xs
theorem TupAt.sq {K : PySem.W.Frag} {M : Mp} {H : Hp} {a : Addr} {xs : List V} (h : TupAt K M H a xs) : SqT K H a xs := by
 rcases h with ⟨_, h⟩ | h
 ·exact .inl h
 ·exact .inr h
theorem LstAt.sq {K : PySem.W.Frag} {M : Mp} {H : Hp} {a : Addr} {xs : List V} (h : LstAt K M H a xs) : SqL K H a xs := by
 rcases h with ⟨_, h⟩ | h
 ·exact .inl h
 ·exact .inr h
mutual
inductive Dt (K : PySem.W.Frag) (M : Mp) (H : Hp) : V → PyData → Prop
 | non : Dt K M H .non .none
 | bl (b : Bool) : Dt K M H (.bl b) (.bool b)
 | int (i : Int) : Dt K M H (.int i) (.int i)
 | str (x : Str) : Dt K M H (.str x) (.str x)
 | tup {a : Addr} {xs : List V} {ds : List PyData} : TupAt K M H a xs → Dts K M H xs ds → Dt K M H (.ref a) (.tuple ds)
 | lst {a : Addr} {xs : List V} {ds : List PyData} : LstAt K M H a xs → Dts K M H xs ds → Dt K M H (.ref a) (.list ds)
 | dK {a : Addr} {kvs : List (Key × V)} {ds : List PyData} : M a = none → H a = some (.dK kvs) → Dts K M H (kvs.map (·.2)) ds → Dt K M H (.ref a) (.dict ((kvs.map fun kv => kD kv.1).zip ds))
 | dT {a : Addr} {kvs : List (List Key × V)} {ds : List PyData} : M a = none → H a = some (.dT kvs) → Dts K M H (kvs.map (·.2)) ds → Dt K M H (.ref a) (.dict ((kvs.map fun kv => PyData.tuple (kv.1.map kD)).zip ds))
 | dX {a b : Addr} {φ : Heap → Prop} {v : V} {dk d : PyData} : M a = none → H a = some (.ext φ) → (a == sysModules) = false →
   (∀ h, φ h → ∃ o es n u, h.get? a = some o ∧ o.cls = .type "dict" ∧ o.data = .dict es n ∧ es.toList.map (·.key) = [.ref b] ∧ es.toList.map (·.val) = [u] ∧ RelV v u) → Dt K M H (.ref b) dk → Dt K M H v d → Dt K M H (.ref a) (.dict [(dk, d)])
inductive Dts (K : PySem.W.Frag) (M : Mp) (H : Hp) : List V → List PyData → Prop
 | nil : Dts K M H [] []
 | cons {x : V} {xs : List V} {d : PyData} {ds : List PyData} : Dt K M H x d → Dts K M H xs ds → Dts K M H (x :: xs) (d :: ds)
end
structure Step (M : Mp) (H : Hp) (M' : Mp) (H' : Hp) : Prop where
 keep : ∀ b o, M b = none → H b = some o → H' b = some o
 free : ∀ b o, M b = none → H b = some o → M' b = none
theorem Step.refl {M : Mp} {H : Hp} : Step M H M H := ⟨fun _ _ _ h => h, fun _ _ h _ => h⟩
theorem Step.trans {M M1 M2 : Mp} {H H1 H2 : Hp} (a : Step M H M1 H1) (b : Step M1 H1 M2 H2) : Step M H M2 H2 :=
 ⟨fun c o h1 h2 => b.keep c o (a.free c o h1 h2) (a.keep c o h1 h2), fun c o h1 h2 => b.free c o (a.free c o h1 h2) (a.keep c o h1 h2)⟩
section
variable {K : PySem.W.Frag} {M M' : Mp} {H H' : Hp}
theorem Hb {a : Addr} {u : HO} (st : Step M H M' H') (hm : M a = none) (h : Rd H a u) : M' a = none ∧ Rd H' a u := by
 rcases h with h | ⟨o, h⟩
 ·exact ⟨st.free _ _ hm h, .inl (st.keep _ _ hm h)⟩
 ·exact ⟨st.free _ _ hm h, .inr ⟨o, st.keep _ _ hm h⟩⟩
theorem TupAt.step {a : Addr} {xs : List V} (h : TupAt K M H a xs) (st : Step M H M' H') : TupAt K M' H' a xs := by
 rcases h with ⟨h1, h2⟩ | h
 ·exact .inl (Hb st h1 h2)
 ·exact .inr h
theorem LstAt.step {a : Addr} {xs : List V} (h : LstAt K M H a xs) (st : Step M H M' H') : LstAt K M' H' a xs := by
 rcases h with ⟨h1, h2⟩ | h
 ·exact .inl (Hb st h1 h2)
 ·exact .inr h
mutual
theorem Dt.step (st : Step M H M' H') : ∀ {v : V} {d : PyData}, Dt K M H v d → Dt K M' H' v d
 | _, _, .non => .non
 | _, _, .bl b => .bl b
 | _, _, .int i => .int i
 | _, _, .str x => .str x
 | _, _, .tup h1 h2 => .tup (h1.step st) (Dts.step st h2)
 | _, _, .lst h1 h2 => .lst (h1.step st) (Dts.step st h2)
 | _, _, .dK h0 h1 h2 => .dK (st.free _ _ h0 h1) (st.keep _ _ h0 h1) (Dts.step st h2)
 | _, _, .dT h0 h1 h2 => .dT (st.free _ _ h0 h1) (st.keep _ _ h0 h1) (Dts.step st h2)
 | _, _, .dX h0 h1 h2 h3 h4 h5 => .dX (st.free _ _ h0 h1) (st.keep _ _ h0 h1) h2 h3 (Dt.step st h4) (Dt.step st h5)
theorem Dts.step (st : Step M H M' H') : ∀ {vs : List V} {ds : List PyData}, Dts K M H vs ds → Dts K M' H' vs ds
 | _, _, .nil => .nil
 | _, _, .cons h1 h2 => .cons (Dt.step st h1) (Dts.step st h2)
end
theorem Dts.length : ∀ {vs : List V} {ds : List PyData}, Dts K M H vs ds → vs.length = ds.length
 | _, _, .nil => rfl
 | _, _, .cons _ h => by rw [List.length_cons, List.length_cons, Dts.length h]
theorem Dts.get : ∀ {vs : List V} {ds : List PyData} {i : Nat} {d : PyData}, Dts K M H vs ds → ds[i]? = some d → ∃ v, vs[i]? = some v ∧ Dt K M H v d
 | _, _, _, _, .nil, e => by simp at e
 | _, _, 0, _, .cons h _, e => by simp at e; subst e; exact ⟨_, rfl, h⟩
 | _, _, i + 1, d, .cons _ h, e => by
  obtain ⟨v, h1, h2⟩ := Dts.get (i := i) (d := d) h (by simpa using e)
  exact ⟨v, by simpa using h1, h2⟩
theorem Dts.Pq : ∀ {vs : List V} {ds : List PyData} {i : Nat} {v : V}, Dts K M H vs ds → vs[i]? = some v → ∃ d, ds[i]? = some d ∧ Dt K M H v d
 | _, _, _, _, .nil, e => by simp at e
 | _, _, 0, _, .cons h _, e => by simp at e; subst e; exact ⟨_, rfl, h⟩
 | _, _, i + 1, v, .cons _ h, e => by
  obtain ⟨d, h1, h2⟩ := Dts.Pq (i := i) (v := v) h (by simpa using e)
  exact ⟨d, by simpa using h1, h2⟩
theorem Dts.append : ∀ {vs ws : List V} {ds es : List PyData}, Dts K M H vs ds → Dts K M H ws es → Dts K M H (vs ++ ws) (ds ++ es)
 | _, _, _, _, .nil, h => h
 | _, _, _, _, .cons h1 h2, h => .cons h1 (Dts.append h2 h)
theorem Dts.take : ∀ {vs : List V} {ds : List PyData} (n : Nat), Dts K M H vs ds → Dts K M H (vs.take n) (ds.take n)
 | _, _, 0, _ => .nil
 | _, _, _ + 1, .nil => .nil
 | _, _, n + 1, .cons h1 h2 => .cons h1 (Dts.take n h2)
theorem Dts.drop : ∀ {vs : List V} {ds : List PyData} (n : Nat), Dts K M H vs ds → Dts K M H (vs.drop n) (ds.drop n)
 | _, _, 0, h => h
 | _, _, _ + 1, .nil => .nil
 | _, _, n + 1, .cons _ h2 => Dts.drop n h2
theorem Dts.set {v : V} {d : PyData} (h : Dt K M H v d) : ∀ {vs : List V} {ds : List PyData} (i : Nat), Dts K M H vs ds → Dts K M H (vs.set i v) (ds.set i d)
 | _, _, _, .nil => .nil
 | _, _, 0, .cons _ t => .cons h t
 | _, _, i + 1, .cons q t => .cons q (Dts.set h i t)
theorem Dts.ints : ∀ (ns : List Int), Dts K M H (ns.map V.int) (ns.map PyData.int)
 | [] => .nil
 | n :: ns => .cons (.int n) (Dts.ints ns)
theorem Vv : ∀ {vs : List V} {ns : List Int}, Dts K M H vs (ns.map PyData.int) → vs = ns.map V.int
 | vs, [], h => by
  rw [List.map_nil] at h
  cases h
  rfl
 | vs, n :: ns, h => by
  rw [List.map_cons] at h
  cases h with
  | cons h1 h2 =>
   cases h1
   rw [Vv h2, List.map_cons]
def VR0 (K : PySem.W.Frag) (M : Mp) (H : Hp) (v : V) : DV → Prop
 | .dat d => Dt K M H v d
 | .own b => v = .ref b
 | .ty _ => False
theorem VR0.step {v : V} {x : DV} (h : VR0 K M H v x) (st : Step M H M' H') : VR0 K M' H' v x := by
 cases x with
 | dat d => exact Dt.step st h
 | own b => exact h
 | ty n => exact h
def OOk (K : PySem.W.Frag) (M : Mp) (H : Hp) (a : Addr) : OO → Prop
 | .lst ds => ∃ vs, H a = some (.lst vs) ∧ Dts K M H vs ds
 | .dct ks => ∃ kvs, H a = some (.dT kvs) ∧ kvs.map (·.1) = ks
 | .dtv ps => ∃ kvs, H a = some (.dT kvs) ∧ kvs.map (·.1) = ps.map (·.1) ∧ Dts K M H (kvs.map (·.2)) (ps.map (·.2))
 | .dkv ps => ∃ kvs, H a = some (.dK kvs) ∧ kvs.map (·.1) = ps.map (·.1) ∧ Dts K M H (kvs.map (·.2)) (ps.map (·.2))
 | .dko ps => ∃ kvs, H a = some (.dK kvs) ∧ Paired (fun (p : Key × V) (q : Key × DV) => p.1 = q.1 ∧ VR0 K M H p.2 q.2) kvs ps
 | .fdk o ps => ∃ kvs, H a = some (.frz o (.dK kvs)) ∧ kvs.map (·.1) = ps.map (·.1) ∧ Dts K M H (kvs.map (·.2)) (ps.map (·.2))
 | .ext φ => H a = some (.ext φ)
theorem OOk.step {a : Addr} {o : OO} (h : OOk K M H a o) (st : Step M H M' H') (e : ∀ u, H a = some u → H' a = some u) : OOk K M' H' a o := by
 cases o with
 | lst ds => obtain ⟨vs, e1, e2⟩ := h; exact ⟨vs, e _ e1, e2.step st⟩
 | dct ks => obtain ⟨vs, e1, e2⟩ := h; exact ⟨vs, e _ e1, e2⟩
 | dtv ps => obtain ⟨vs, e1, e2, e3⟩ := h; exact ⟨vs, e _ e1, e2, e3.step st⟩
 | dkv ps => obtain ⟨vs, e1, e2, e3⟩ := h; exact ⟨vs, e _ e1, e2, e3.step st⟩
 | dko ps => obtain ⟨vs, e1, e2⟩ := h; exact ⟨vs, e _ e1, Paired.TK e2 fun _ _ z => ⟨z.1, z.2.step st⟩⟩
 | fdk o ps => obtain ⟨vs, e1, e2, e3⟩ := h; exact ⟨vs, e _ e1, e2, e3.step st⟩
 | ext φ => exact e _ h
theorem OOk.some {a : Addr} {o : OO} (h : OOk K M H a o) : ∃ u, H a = some u := by
 cases o with
 | lst ds => obtain ⟨vs, e1, _⟩ := h; exact ⟨_, e1⟩
 | dct ks => obtain ⟨vs, e1, _⟩ := h; exact ⟨_, e1⟩
 | dtv ps => obtain ⟨vs, e1, _⟩ := h; exact ⟨_, e1⟩
 | dkv ps => obtain ⟨vs, e1, _⟩ := h; exact ⟨_, e1⟩
 | dko ps => obtain ⟨vs, e1, _⟩ := h; exact ⟨_, e1⟩
 | fdk o ps => obtain ⟨vs, e1, _⟩ := h; exact ⟨_, e1⟩
 | ext φ => exact ⟨_, h⟩
structure ZK (K : PySem.W.Frag) (M : Mp) (H : Hp) : Prop where
 ok : ∀ a o, M a = some o → OOk K M H a o
theorem ZK.ls (r : ZK K M H) (a : Addr) (ds : List PyData) (h : M a = some (.lst ds)) : ∃ vs, H a = some (.lst vs) ∧ Dts K M H vs ds := r.ok a _ h
theorem ZK.tracked (r : ZK K M H) {a : Addr} (h : H a = none) : M a = none := by
 cases q : M a with
 | none => rfl
 | some o =>
  obtain ⟨u, e⟩ := (r.ok a o q).some
  rw [h] at e
  cases e
theorem Step.new {p : Addr} {o : HO} (h : H p = none) : Step M H M (upd H p o) :=
 ⟨fun b u _ e => by rw [ZC (Zr e h)]; exact e, fun _ _ h _ => h⟩
theorem ZK.step_same (r : ZK K M H) (st : Step M H M H') (hk : ∀ a u, M a ≠ none → H a = some u → H' a = some u) : ZK K M H' :=
 ⟨fun a o e => (r.ok a o e).step st fun u hu => hk a u (by rw [e]; simp) hu⟩
theorem ZK.new (r : ZK K M H) {p : Addr} {o : HO} (h : H p = none) : ZK K M (upd H p o) :=
 r.step_same (Step.new h) fun a vs _ e => by rw [ZC (Zr e h)]; exact e
theorem Step.Q4 {p : Addr} {o : HO} {q : OO} (h : H p = none) : Step M H (Zv M p q) (upd H p o) :=
 ⟨fun b u _ e => by rw [ZC (Zr e h)]; exact e, fun b u hm e => by rw [Zp (Zr e h)]; exact hm⟩
theorem Step.VL {p : Addr} {o : HO} {q q' : OO} (h : M p = some q) : Step M H (Zv M p q') (upd H p o) := by
 have ne : ∀ b, M b = none → b ≠ p := fun b hb e => by rw [e, h] at hb; cases hb
 exact ⟨fun b u hb e => by rw [ZC (ne b hb)]; exact e, fun b u hb e => by rw [Zp (ne b hb)]; exact hb⟩
theorem ZK.G9 (r : ZK K M H) {p : Addr} {u : HO} {o : OO} (st : Step M H (Zv M p o) (upd H p u)) (h : OOk K (Zv M p o) (upd H p u) p o) : ZK K (Zv M p o) (upd H p u) := by
 refine ⟨fun a q e => ?_⟩
 by_cases ha : a = p
 ·subst ha
  rw [Zn] at e
  cases e
  exact h
 ·rw [Zp ha] at e
  exact (r.ok a q e).step st fun v hv => by rw [ZC ha]; exact hv
theorem ZK.VM (r : ZK K M H) {p : Addr} {vs : List V} {ds : List PyData} (st : Step M H (Zv M p (.lst ds)) (upd H p (.lst vs))) (hv : Dts K M H vs ds) :
  ZK K (Zv M p (.lst ds)) (upd H p (.lst vs)) := r.G9 st ⟨vs, Z8, hv.step st⟩
theorem Step.frz {p : Addr} : Step M H (J5 M p) H :=
 ⟨fun _ _ _ h => h, fun b o hb _ => by unfold J5; split <;> first | rfl | exact hb⟩
theorem ZK.frz (r : ZK K M H) {p : Addr} : ZK K (J5 M p) H := by
 refine ⟨fun a o e => ?_⟩
 have hne : a ≠ p := fun z => by rw [z, Wi] at e; cases e
 rw [VF hne] at e
 exact (r.ok a o e).step Step.frz fun _ h => h
def Qd (K : PySem.W.Frag) (M : Mp) (H : Hp) (v : V) : DV → Prop
 | .dat d => Dt K M H v d
 | .own a => v = .ref a
 | .ty n => v = .ty n
theorem Qd.step {v : V} {x : DV} (h : Qd K M H v x) (st : Step M H M' H') : Qd K M' H' v x := by
 cases x with
 | dat d => exact Dt.step st h
 | own a => exact h
 | ty n => exact h
abbrev Vn (K : PySem.W.Frag) (M : Mp) (H : Hp) : List V → List DV → Prop := Paired (Qd K M H)
theorem Vn.step {vs : List V} {xs : List DV} (h : Vn K M H vs xs) (st : Step M H M' H') : Vn K M' H' vs xs := Paired.TK h fun _ _ q => Qd.step q st
theorem Vn.Zdl : ∀ {vs : List V} {ds : List PyData}, Vn K M H vs (ds.map DV.dat) → Dts K M H vs ds
 | vs, [], h => by rw [List.map_nil] at h; cases h; exact .nil
 | vs, d :: ds, h => by
  rw [List.map_cons] at h
  cases h with
  | cons h1 h2 => exact .cons h1 (Vn.Zdl h2)
def onV (o : Option (Option DV)) (P : DV → Prop) : Prop := match o with | some (some x) => P x | _ => False
theorem Zav {o : Option (Option DV)} {P : DV → Prop} (h : onV o P) : ∃ x, o = some (some x) ∧ P x := by
 unfold onV at h
 split at h
 ·exact ⟨_, rfl, h⟩
 ·exact h.elim
def onI (x : DV) (P : Int → Prop) : Prop := match x with | .dat (.int i) => P i | _ => False
theorem ZM {x : DV} {P : Int → Prop} (h : onI x P) : ∃ i, x = .dat (.int i) ∧ P i := by
 unfold onI at h
 split at h
 ·exact ⟨_, rfl, h⟩
 ·exact h.elim
def onB (x : DV) (P : Bool → Prop) : Prop := match x with | .dat (.bool i) => P i | _ => False
theorem Xo {x : DV} {P : Bool → Prop} (h : onB x P) : ∃ i, x = .dat (.bool i) ∧ P i := by
 unfold onB at h
 split at h
 ·exact ⟨_, rfl, h⟩
 ·exact h.elim
def onS (x : DV) (P : Str → Prop) : Prop := match x with | .dat (.str i) => P i | _ => False
theorem Jm {x : DV} {P : Str → Prop} (h : onS x P) : ∃ i, x = .dat (.str i) ∧ P i := by
 unfold onS at h
 split at h
 ·exact ⟨_, rfl, h⟩
 ·exact h.elim
def onT (x : DV) (P : List PyData → Prop) : Prop := match x with | .dat (.tuple i) => P i | _ => False
theorem G6 {x : DV} {P : List PyData → Prop} (h : onT x P) : ∃ i, x = .dat (.tuple i) ∧ P i := by
 unfold onT at h
 split at h
 ·exact ⟨_, rfl, h⟩
 ·exact h.elim
def onL (x : DV) (P : List PyData → Prop) : Prop := match x with | .dat (.list i) => P i | _ => False
theorem Ex {x : DV} {P : List PyData → Prop} (h : onL x P) : ∃ i, x = .dat (.list i) ∧ P i := by
 unfold onL at h
 split at h
 ·exact ⟨_, rfl, h⟩
 ·exact h.elim
def onD (x : DV) (P : PyData → Prop) : Prop := match x with | .dat i => P i | _ => False
theorem QK {x : DV} {P : PyData → Prop} (h : onD x P) : ∃ i, x = .dat i ∧ P i := by
 unfold onD at h
 split at h
 ·exact ⟨_, rfl, h⟩
 ·exact h.elim
def onO (x : DV) (P : Addr → Prop) : Prop := match x with | .own i => P i | _ => False
theorem ZU {x : DV} {P : Addr → Prop} (h : onO x P) : ∃ i, x = .own i ∧ P i := by
 unfold onO at h
 split at h
 ·exact ⟨_, rfl, h⟩
 ·exact h.elim
def JC (o : Option OO) (P : List PyData → Prop) : Prop := match o with | some (.lst ds) => P ds | _ => False
theorem UL (ds : List PyData) (P : List PyData → Prop) : JC (some (.lst ds)) P = P ds := rfl
theorem Qx {o : Option OO} {P : List PyData → Prop} (h : JC o P) : ∃ ds, o = some (.lst ds) ∧ P ds := by
 unfold JC at h
 split at h
 ·exact ⟨_, rfl, h⟩
 ·exact h.elim
def SX (o : Option OO) (P : List (List Key) → Prop) : Prop := match o with | some (.dct ks) => P ks | _ => False
def onQ (x : DV) (M : Mp) (P : List PyData → Prop) : Prop := match x with | .dat (.tuple ds) => P ds | .dat (.list ds) => P ds | .own l => JC (M l) P | _ => False
theorem G5 {x : DV} {M : Mp} {P : List PyData → Prop} (h : onQ x M P) : ∃ ds, (x = .dat (.tuple ds) ∨ x = .dat (.list ds) ∨ ∃ l, x = .own l ∧ M l = some (.lst ds)) ∧ P ds := by
 unfold onQ at h
 split at h
 ·exact ⟨_, .inl rfl, h⟩
 ·exact ⟨_, .inr (.inl rfl), h⟩
 ·replace h := Qx h
  obtain ⟨ds, e, h⟩ := h
  exact ⟨ds, .inr (.inr ⟨_, rfl, e⟩), h⟩
 ·exact h.elim
def onK (x : DV) (M : Mp) (P : List PyData → Prop) : Prop := match x with | .dat (.list ds) => P ds | .own l => JC (M l) P | _ => False
theorem QV {x : DV} {M : Mp} {P : List PyData → Prop} (h : onK x M P) : ∃ ds, (x = .dat (.list ds) ∨ ∃ l, x = .own l ∧ M l = some (.lst ds)) ∧ P ds := by
 unfold onK at h
 split at h
 ·exact ⟨_, .inl rfl, h⟩
 ·replace h := Qx h
  obtain ⟨ds, e, h⟩ := h
  exact ⟨ds, .inr ⟨_, rfl, e⟩, h⟩
 ·exact h.elim
def on1 (xs : List DV) (P : DV → Prop) : Prop := match xs with | [x] => P x | _ => False
theorem ZS {xs : List DV} {P : DV → Prop} (h : on1 xs P) : ∃ x, xs = [x] ∧ P x := by
 unfold on1 at h
 split at h
 ·exact ⟨_, rfl, h⟩
 ·exact h.elim
def on2 (xs : List DV) (P : DV → DV → Prop) : Prop := match xs with | [x, y] => P x y | _ => False
theorem ZL {xs : List DV} {P : DV → DV → Prop} (h : on2 xs P) : ∃ x y, xs = [x, y] ∧ P x y := by
 unfold on2 at h
 split at h
 ·exact ⟨_, _, rfl, h⟩
 ·exact h.elim
def on3 (xs : List DV) (P : DV → DV → DV → Prop) : Prop := match xs with | [x, y, z] => P x y z | _ => False
theorem Qn {xs : List DV} {P : DV → DV → DV → Prop} (h : on3 xs P) : ∃ x y z, xs = [x, y, z] ∧ P x y z := by
 unfold on3 at h
 split at h
 ·exact ⟨_, _, _, rfl, h⟩
 ·exact h.elim
def on4 (xs : List DV) (P : DV → DV → DV → DV → Prop) : Prop := match xs with | [x0, x1, x2, x3] => P x0 x1 x2 x3 | _ => False
def on5 (xs : List DV) (P : DV → DV → DV → DV → DV → Prop) : Prop := match xs with | [x0, x1, x2, x3, x4] => P x0 x1 x2 x3 x4 | _ => False
def on6 (xs : List DV) (P : DV → DV → DV → DV → DV → DV → Prop) : Prop := match xs with | [x0, x1, x2, x3, x4, x5] => P x0 x1 x2 x3 x4 x5 | _ => False
noncomputable def Nr : List DV → Option (List PyData)
 | [] => some []
 | .dat d :: r => match Nr r with | some ds => some (d :: ds) | none => none
 | _ :: _ => none
theorem GN : ∀ {xs : List DV} {ds : List PyData}, Nr xs = some ds → xs = ds.map DV.dat
 | [], _, h => by cases h; rfl
 | .dat d :: r, ds, h => by
  rw [Nr] at h
  split at h
  ·rename_i es e
   cases h
   rw [List.map_cons, ← GN e]
  ·cases h
 | .own _ :: _, _, h => by cases h
 | .ty _ :: _, _, h => by cases h
def YY (xs : List DV) (P : List PyData → Prop) : Prop := match Nat.ble xs.length 100 with
 | true => (match Nr xs with | some ds => P ds | none => False)
 | false => False
theorem Gs {xs : List DV} {P : List PyData → Prop} (h : YY xs P) : ∃ ds, xs = ds.map DV.dat ∧ ds.length ≤ 100 ∧ P ds := by
 unfold YY at h
 split at h
 ·rename_i e
  split at h
  ·rename_i ds e2
   have e3 := GN e2
   refine ⟨ds, e3, ?_, h⟩
   have e4 := Nat.le_of_ble_eq_true e
   rwa [e3, List.length_map] at e4
  ·exact h.elim
 ·exact h.elim
abbrev DSt := List (Option DV)
structure QJ (K : PySem.W.Frag) (M : Mp) (H : Hp) (σ : L2.St) (Δ : DSt) : Prop where
 len : σ.length = Δ.length
 at' : ∀ (i : Nat) (x : DV), Δ[i]? = some (some x) → ∃ v, σ[i]? = some (some v) ∧ Qd K M H v x
theorem QJ.step {σ : L2.St} {Δ : DSt} (h : QJ K M H σ Δ) (st : Step M H M' H') : QJ K M' H' σ Δ :=
 ⟨h.len, fun i x e => let ⟨v, e1, e2⟩ := h.at' i x e; ⟨v, e1, e2.step st⟩⟩
theorem QJ.set {σ : L2.St} {Δ : DSt} {i : Nat} {v : V} {x : DV} (h : QJ K M H σ Δ) (r : Qd K M H v x) : QJ K M H (σ.set i (some v)) (Δ.set i (some x)) := by
 refine ⟨by rw [List.length_set, List.length_set, h.len], fun j y e => ?_⟩
 by_cases hj : i = j
 ·subst hj
  by_cases hl : i < Δ.length
  ·rw [List.getElem?_set_self hl] at e
   cases e
   exact ⟨v, List.getElem?_set_self (by rw [h.len]; exact hl), r⟩
  ·rw [List.getElem?_eq_none (by rw [List.length_set]; omega)] at e
   cases e
 ·rw [List.getElem?_set_ne hj] at e
  rw [List.getElem?_set_ne hj]
  exact h.at' j y e
noncomputable def VI (N : List Str) (xs : List DV) : DSt := xs.map some ++ List.replicate (N.length - xs.length) none
theorem Paired.Zfz {α β : Type} {F : α → β → Prop} : ∀ {l : List α} {m : List β} {i : Nat} {b : β}, Paired F l m → m[i]? = some b → ∃ a, l[i]? = some a ∧ F a b
 | _, _, _, _, .nil, e => by simp at e
 | _, _, 0, _, .cons h _, e => by simp at e; subst e; exact ⟨_, rfl, h⟩
 | _, _, i + 1, b, .cons _ h, e => by
  obtain ⟨a, h1, h2⟩ := Paired.Zfz (i := i) (b := b) h (by simpa using e)
  exact ⟨a, by simpa using h1, h2⟩
theorem QJ.start {N : List Str} {vs : List V} {xs : List DV} (h : Vn K M H vs xs) : QJ K M H (start N vs) (VI N xs) := by
 have hl : vs.length = xs.length := Paired.length h
 refine ⟨by unfold L2.start VI; simp [hl], fun i x e => ?_⟩
 unfold VI at e
 unfold L2.start
 by_cases hi : i < xs.length
 ·rw [List.getElem?_append_left (by simpa using hi), List.getElem?_map] at e
  cases q : xs[i]? with
  | none => rw [q] at e; cases e
  | some y =>
   rw [q] at e
   cases e
   obtain ⟨v, h1, h2⟩ := Paired.Zfz h q
   exact ⟨v, by rw [List.getElem?_append_left (by simpa [hl] using hi), List.getElem?_map, h1]; rfl, h2⟩
 ·rw [List.getElem?_append_right (by simpa using hi), List.getElem?_replicate] at e
  split at e <;> cases e
end
abbrev DK := DV → Mp → Prop
abbrev DTE := DSt → Mp → DK → Prop
abbrev DTT := DSt → Mp → (Bool → Mp → Prop) → Prop
abbrev DTA := DSt → Mp → (List DV → Mp → Prop) → Prop
structure Qe where
 nx : DSt → Mp → Prop
 rt : DK
 bk : DSt → Mp → Prop := fun _ _ => False
 ct : DSt → Mp → Prop := fun _ _ => False
abbrev DTS := Qe → DSt → Mp → Prop
def Rch (K : PySem.W.Frag) (M : Mp) (H : Hp) (Φ : DK) (Q : VK) : Prop := ∀ v H' x M', ZK K M' H' → Step M H M' H' → Qd K M' H' v x → Φ x M' → Q v H'
theorem Rch.step {K : PySem.W.Frag} {M M' : Mp} {H H' : Hp} {Φ : DK} {Q : VK} (h : Rch K M H Φ Q) (st : Step M H M' H') : Rch K M' H' Φ Q := fun v H2 x M2 r s2 q f => h v H2 x M2 r (st.trans s2) q f
theorem Rch.dat {K : PySem.W.Frag} {M M' : Mp} {H H' : Hp} {Φ : DK} {Q : VK} {v : V} {d : PyData} (h : Rch K M H Φ Q) (r : ZK K M' H') (st : Step M H M' H') (hd : Dt K M' H' v d) (f : Φ (.dat d) M') : Q v H' := h v H' (.dat d) M' r st hd f
def DE (X : Cx) (e : Expr) (τ : DTE) : Prop := ∃ t, PE X e t ∧ ∀ σ H Δ M Φ Q, ZK X.K M H → QJ X.K M H σ Δ → τ Δ M Φ → Rch X.K M H Φ Q → t σ H Q
def DT (X : Cx) (e : Expr) (τ : DTT) : Prop := ∃ t, PT X e t ∧ ∀ σ H Δ M Φ (Q : Bool → Hp → Prop), ZK X.K M H → QJ X.K M H σ Δ → τ Δ M Φ →
 (∀ b H' M', ZK X.K M' H' → Step M H M' H' → Φ b M' → Q b H') → t σ H Q
def DW (X : Cx) (e : Expr) (τ : DTT) : Prop := ∃ t, PW X e t ∧ ∀ σ H Δ M Φ (Q : Bool → Hp → Prop), ZK X.K M H → QJ X.K M H σ Δ → τ Δ M Φ →
 (∀ b H' M', ZK X.K M' H' → Step M H M' H' → Φ b M' → Q b H') → t σ H Q
def DA (X : Cx) (es : List Expr) (τ : DTA) : Prop := ∃ t, PA X es t ∧ ∀ σ H Δ M Φ (Q : List V → Hp → Prop), ZK X.K M H → QJ X.K M H σ Δ → τ Δ M Φ →
 (∀ vs H' xs M', ZK X.K M' H' → Step M H M' H' → Vn X.K M' H' vs xs → Φ xs M' → Q vs H') → t σ H Q
structure Yw (K : PySem.W.Frag) (M : Mp) (H : Hp) (D : Qe) (E : Ends) : Prop where
 nx : ∀ σ' H' Δ' M', ZK K M' H' → Step M H M' H' → QJ K M' H' σ' Δ' → D.nx Δ' M' → E.nx σ' H'
 rt : Rch K M H D.rt E.rt
 bk : ∀ σ' H' Δ' M', ZK K M' H' → Step M H M' H' → QJ K M' H' σ' Δ' → D.bk Δ' M' → E.bk σ' H'
 ct : ∀ σ' H' Δ' M', ZK K M' H' → Step M H M' H' → QJ K M' H' σ' Δ' → D.ct Δ' M' → E.ct σ' H'
theorem Yw.step {K : PySem.W.Frag} {M M' : Mp} {H H' : Hp} {D : Qe} {E : Ends} (h : Yw K M H D E) (st : Step M H M' H') : Yw K M' H' D E :=
 ⟨fun a b c d r s => h.nx a b c d r (st.trans s), h.rt.step st, fun a b c d r s => h.bk a b c d r (st.trans s), fun a b c d r s => h.ct a b c d r (st.trans s)⟩
def DS (X : Cx) (st : Stmt) (τ : DTS) : Prop := ∃ t, PS X st t ∧ ∀ σ H Δ M D E, ZK X.K M H → QJ X.K M H σ Δ → τ D Δ M → Yw X.K M H D E → t E σ H
def DSs (X : Cx) (st : List Stmt) (τ : DTS) : Prop := ∃ t, PSs X st t ∧ ∀ σ H Δ M D E, ZK X.K M H → QJ X.K M H σ Δ → τ D Δ M → Yw X.K M H D E → t E σ H
section
variable {X : Cx} {a b c : Expr} {ta tb tc : DTE} {pos : Pos}
def Zfl (i : Nat) : DTE := fun Δ M Φ => onV Δ[i]? fun x => Φ x M
def dC (d : PyData) : DTE := fun _ M Φ => Φ (.dat d) M
theorem Zb (i : Nat) {x : Str} {pos : Pos} (hN : autoParam (X.N[i]? = some x) zz3._auto_1) (hv : autoParam (Vis X.env.scope x) zz5._auto_1) (hd : autoParam ((x == ("__debug__" : Str)) = false) zz1._auto_1)
  (hcd : autoParam ((x == ("__classdict__" : Str)) = false) zz1._auto_1) : DE X (.Name x pos) (Zfl i) := by
 refine ⟨_, Zcv hN hv hd hcd, fun σ H Δ M Φ Q r e h k => ?_⟩
 replace h := Zav h
 obtain ⟨x, e1, h⟩ := h
 obtain ⟨v, e2, q⟩ := e.at' i x e1
 exact ⟨v, e2, k v H x M r Step.refl q h⟩
theorem V5 {e : Expr} {v : V} {d : PyData} (h : PE X e (tC v)) (q : ∀ M H, Dt X.K M H v d) : DE X e (dC d) :=
 ⟨_, h, fun _ H _ M _ _ r _ h k => k v H (.dat d) M r Step.refl (q M H) h⟩
theorem Zc {i j pos} : DE X (.Constant (.int i) j pos) (dC (.int i)) := V5 Zbm fun _ _ => .int i
theorem YE {b j pos} : DE X (.Constant (.bool b) j pos) (dC (.bool b)) := V5 ZeI fun _ _ => .bl b
theorem WO {j pos} : DE X (.Constant .none j pos) (dC .none) := V5 ZcD fun _ _ => .non
theorem ZE {x j pos} : DE X (.Constant (.str x) j pos) (dC (.str x)) := V5 Zbq fun _ _ => .str x
def dTy (n : String) : DTE := fun _ M Φ => Φ (.ty n) M
theorem Cv {x : Str} {n : String} {pos : Pos} (hg : Gl X x) (hm : X.mg x = none) (hv : bootBuiltins x = some (.type n)) (hn : autoParam (x ≠ "__name__") zz1._auto_1) (hdb : autoParam ((x == ("__debug__" : Str)) = false) zz1._auto_1) : DE X (.Name x pos) (dTy n) :=
 ⟨_, UM (v := .ty n) hg hm hv rfl hn hdb, fun _ H _ M _ _ r _ h k => k (.ty n) H (.ty n) M r Step.refl rfl h⟩
end
end DL
namespace DL
open PySem PySem.Spec PyProof.Rows L2
section
variable {K : PySem.W.Frag} {M M' : Mp} {H H' : Hp} {v : V}
theorem Qd.bool {b : Bool} (h : Qd K M H v (.dat (.bool b))) : v = .bl b := by cases (show Dt K M H v (.bool b) from h); rfl
theorem Qd.int {i : Int} (h : Qd K M H v (.dat (.int i))) : v = .int i := by cases (show Dt K M H v (.int i) from h); rfl
theorem Qd.str {x : Str} (h : Qd K M H v (.dat (.str x))) : v = .str x := by cases (show Dt K M H v (.str x) from h); rfl
theorem Qd.tup {ds : List PyData} (h : Qd K M H v (.dat (.tuple ds))) : ∃ a xs, v = .ref a ∧ TupAt K M H a xs ∧ Dts K M H xs ds := by
 cases (show Dt K M H v (.tuple ds) from h) with
 | tup h1 h2 => exact ⟨_, _, rfl, h1, h2⟩
theorem Qd.lst {ds : List PyData} (h : Qd K M H v (.dat (.list ds))) : ∃ a xs, v = .ref a ∧ LstAt K M H a xs ∧ Dts K M H xs ds := by
 cases (show Dt K M H v (.list ds) from h) with
 | lst h1 h2 => exact ⟨_, _, rfl, h1, h2⟩
theorem Dt.Wf {p : Addr} {xs : List V} {ds : List PyData} (r : ZK K M H) (hp : H p = none) (h : Dts K M H xs ds) : Dt K M (upd H p (.tup xs)) (.ref p) (.tuple ds) :=
 .tup (.inl ⟨r.tracked hp, .inl Z8⟩) (h.step (Step.new hp))
theorem Dt.Jl {p : Addr} {xs : List V} {ds : List PyData} (r : ZK K M H) (hp : H p = none) (h : Dts K M H xs ds) : Dt K M (upd H p (.lst xs)) (.ref p) (.list ds) :=
 .lst (.inl ⟨r.tracked hp, .inl Z8⟩) (h.step (Step.new hp))
end
def Snd (K : PySem.W.Frag) (t : TE) (τ : DTE) : Prop := ∀ σ H Δ M Φ Q, ZK K M H → QJ K M H σ Δ → τ Δ M Φ → Rch K M H Φ Q → t σ H Q
theorem Snd.bin {K : PySem.W.Frag} {ta tb : TE} {τa τb : DTE} (qa : Snd K ta τa) (qb : Snd K tb τb) {M : Mp} {H : Hp} {σ : L2.St} {Δ : DSt} {S : DV → DV → Mp → Prop} {R : V → V → Hp → Prop} (r : ZK K M H) (e : QJ K M H σ Δ)
  (h : τa Δ M fun x M1 => τb Δ M1 fun y M2 => S x y M2)
  (k : ∀ v u H2 x y M2, ZK K M2 H2 → Step M H M2 H2 → Qd K M2 H2 v x → Qd K M2 H2 u y → S x y M2 → R v u H2) : ta σ H fun v H1 => tb σ H1 fun u H2 => R v u H2 :=
 qa σ H Δ M _ _ r e h fun v H1 x M1 r1 st rv hx => qb σ H1 Δ M1 _ _ r1 (e.step st) hx fun u H2 y M2 r2 st2 ru hy => k v u H2 x y M2 r2 (st.trans st2) (rv.step st2) ru hy
abbrev D2 := DV → DV → Mp → DK → Prop
def OpD (X : Cx) (f : Value → Value → Sem Value) (δ : D2) : Prop := ∃ r : R2, OpR X f r ∧ ∀ v u H x y M Φ Q, ZK X.K M H → Qd X.K M H v x → Qd X.K M H u y → δ x y M Φ → Rch X.K M H Φ Q → r v u H Q
def dOp (δ : D2) (ta tb : DTE) : DTE := fun Δ M Φ => ta Δ M fun x M1 => tb Δ M1 fun y M2 => δ x y M2 Φ
section
variable {X : Cx} {a b c : Expr} {ta tb tc : DTE} {pos : Pos} {op op' : CmpOp} {δ δ' : D2}
theorem Snd.opn {ta' tb' : TE} {r : R2} (ha : Snd X.K ta' ta) (hb : Snd X.K tb' tb) (q : ∀ v u H x y M Φ Q, ZK X.K M H → Qd X.K M H v x → Qd X.K M H u y → δ x y M Φ → Rch X.K M H Φ Q → r v u H Q) : Snd X.K (tOp r ta' tb') (dOp δ ta tb) :=
 fun _ _ _ _ _ _ dr e h k => Snd.bin ha hb dr e h fun v u H2 x y M2 r2 st rv ru hs => q v u H2 x y M2 _ _ r2 rv ru hs (k.step st)
theorem Zo {bop : Operator} (ho : OpD X (binaryOp bop) δ) (ha : DE X a ta) (hb : DE X b tb) : DE X (.BinOp a bop b pos) (dOp δ ta tb) := by
 obtain ⟨ta', pa, qa⟩ := ha
 obtain ⟨tb', pb, qb⟩ := hb
 obtain ⟨r, hr, q⟩ := ho
 exact ⟨_, ZeS hr pa pb, Snd.opn qa qb q⟩
theorem QW (ho : OpD X (compareOp op) δ) (ha : DE X a ta) (hb : DE X b tb) (hm : autoParam (behindInMarks op b = false) zz6._auto_1) : DE X (.Compare a [op] [b] pos) (dOp δ ta tb) := by
 obtain ⟨ta', pa, qa⟩ := ha
 obtain ⟨tb', pb, qb⟩ := hb
 obtain ⟨r, hr, q⟩ := ho
 exact ⟨_, RK hr pa pb hm, Snd.opn qa qb q⟩
def dB (t : DTE) : DTT := fun Δ M Φ => t Δ M fun x M1 => onB x fun c => Φ c M1
theorem Snd.test {t : TE} {τ : DTE} (h : Snd X.K t τ) {σ : L2.St} {H : Hp} {Δ : DSt} {M : Mp} {Φ : Bool → Mp → Prop} {Q : Bool → Hp → Prop} (r : ZK X.K M H) (e : QJ X.K M H σ Δ) (hw : dB τ Δ M Φ)
  (k : ∀ b H' M', ZK X.K M' H' → Step M H M' H' → Φ b M' → Q b H') : t σ H fun x H1 => ∃ c, x = .bl c ∧ Q c H1 := by
 refine h σ H Δ M _ _ r e hw fun v H1 x M1 r1 st rv hx => ?_
 replace hx := Xo hx
 obtain ⟨c, rfl, hx⟩ := hx
 exact ⟨c, rv.bool, k c H1 M1 r1 st hx⟩
theorem ZN (ho : OpD X (compareOp op) δ) (ha : DE X a ta) (hb : DE X b tb) (hm : autoParam (behindInMarks op b = false) zz6._auto_1) : DT X (.Compare a [op] [b] pos) (dB (dOp δ ta tb)) := by
 obtain ⟨ta', pa, qa⟩ := ha
 obtain ⟨tb', pb, qb⟩ := hb
 obtain ⟨r, hr, q⟩ := ho
 exact ⟨_, Rg hr pa pb hm, fun _ _ _ _ _ _ dr e h k => Snd.test (Snd.opn qa qb q) dr e h k⟩
theorem Vj {e : Expr} {τ : DTE} (h : DE X e τ) (he : autoParam (∀ whole, isTrue e X.env whole = (do let v ← whole; standAt e.pos; holding [v] (truthy v))) zz2._auto_1) : DT X e (dB τ) := by
 obtain ⟨t, p, q⟩ := h
 exact ⟨_, Zc7 p he, fun _ _ _ _ _ _ dr e h k => Snd.test q dr e h k⟩
def BI (δ δ' : D2) (ta tb tc : DTE) : DTE := fun Δ M Φ => ta Δ M fun x M1 => tb Δ M1 fun y M2 => δ x y M2 fun z M3 => onB z fun k => (if k = true then tc Δ M3 fun w' M4 => δ' y w' M4 Φ else Φ (.dat (.bool false)) M3)
theorem Snd.chain {ta' tb' tc' : TE} {r r' : R2} (ha : Snd X.K ta' ta) (hb : Snd X.K tb' tb) (hc : Snd X.K tc' tc) (q : ∀ v u H x y M Φ Q, ZK X.K M H → Qd X.K M H v x → Qd X.K M H u y → δ x y M Φ → Rch X.K M H Φ Q → r v u H Q)
  (q' : ∀ v u H x y M Φ Q, ZK X.K M H → Qd X.K M H v x → Qd X.K M H u y → δ' x y M Φ → Rch X.K M H Φ Q → r' v u H Q) : Snd X.K (EB r r' ta' tb' tc') (BI δ δ' ta tb tc) := by
 intro σ H Δ M Φ Q dr e h k
 refine Snd.bin ha hb dr e h fun v u H2 x y M2 r2 st rv ru hs => ?_
 refine q v u H2 x y M2 _ _ r2 rv ru hs fun z H3 zd M3 r3 st3 rz hz => ?_
 replace hz := Xo hz
 obtain ⟨kb, rfl, hz⟩ := hz
 refine ⟨kb, rz.bool, ?_⟩
 cases kb with
 | true =>
  have hz' : tc Δ M3 fun w' M4 => δ' y w' M4 Φ := by simpa using hz
  rw [if_pos rfl]
  refine hc σ H3 Δ M3 _ _ r3 (e.step (st.trans st3)) hz' fun w' H4 wd M4 r4 st4 rw4 hw4 => ?_
  exact q' u w' H4 y wd M4 _ _ r4 (ru.step (st3.trans st4)) rw4 hw4 (k.step (st.trans (st3.trans st4)))
 | false =>
  have hz' : Φ (.dat (.bool false)) M3 := by simpa using hz
  rw [if_neg Bool.false_ne_true]
  exact k.dat r3 (st.trans st3) (Dt.bl false) hz'
theorem Bv (ho : OpD X (compareOp op) δ) (ho' : OpD X (compareOp op') δ') (ha : DE X a ta) (hb : DE X b tb) (hc : DE X c tc) (hm : autoParam (lastMarks [op, op'] [b, c] = false) zz4._auto_1) :
  DE X (.Compare a [op, op'] [b, c] pos) (BI δ δ' ta tb tc) := by
 obtain ⟨ta', pa, qa⟩ := ha
 obtain ⟨tb', pb, qb⟩ := hb
 obtain ⟨tc', pc, qc⟩ := hc
 obtain ⟨r, hr, q⟩ := ho
 obtain ⟨r', hr', q'⟩ := ho'
 exact ⟨_, L1 hr hr' pa pb pc hm, Snd.chain qa qb qc q q'⟩
theorem Ni (ho : OpD X (compareOp op) δ) (ho' : OpD X (compareOp op') δ') (ha : DE X a ta) (hb : DE X b tb) (hc : DE X c tc) (hm : autoParam (lastMarks [op, op'] [b, c] = false) zz4._auto_1) :
  DT X (.Compare a [op, op'] [b, c] pos) (dB (BI δ δ' ta tb tc)) := by
 obtain ⟨ta', pa, qa⟩ := ha
 obtain ⟨tb', pb, qb⟩ := hb
 obtain ⟨tc', pc, qc⟩ := hc
 obtain ⟨r, hr, q⟩ := ho
 obtain ⟨r', hr', q'⟩ := ho'
 exact ⟨_, MD hr hr' pa pb pc hm, fun _ _ _ _ _ _ dr e h k => Snd.test (Snd.chain qa qb qc q q') dr e h k⟩
variable {tA tB' : DTT} {rest : List Expr}
def ZeY (t u : DTT) : DTT := fun Δ M Φ => t Δ M fun c M1 => if c = true then u Δ M1 Φ else Φ false M1
def dOr (t u : DTT) : DTT := fun Δ M Φ => t Δ M fun c M1 => if c = true then Φ true M1 else u Δ M1 Φ
def ZfL (t : DTT) : DTT := fun Δ M Φ => t Δ M fun c M1 => Φ (!c) M1
theorem DW.dt {e : Expr} {τ : DTT} (h : DW X e τ) : DT X e τ := by
 obtain ⟨t, p, q⟩ := h
 exact ⟨t, p.pt, q⟩
theorem Yo (ha : DT X a tA) : DW X (.BoolOp .And [a] pos) tA := by
 obtain ⟨t, p, q⟩ := ha
 exact ⟨t, R6 p, q⟩
theorem Wm (ha : DT X a tA) : DW X (.BoolOp .Or [a] pos) tA := by
 obtain ⟨t, p, q⟩ := ha
 exact ⟨t, ZbW p, q⟩
theorem WY (ha : DT X a tA) (hb : DW X (.BoolOp .And (b :: rest) pos) tB') : DW X (.BoolOp .And (a :: b :: rest) pos) (ZeY tA tB') := by
 obtain ⟨t, p, q⟩ := ha
 obtain ⟨u, p2, q2⟩ := hb
 refine ⟨_, Zb6 p p2, fun σ H Δ M Φ Q r e h k => ?_⟩
 refine q σ H Δ M _ _ r e h fun c H1 M1 r1 st hc => ?_
 cases c with
 | true => rw [if_pos rfl]; exact q2 σ H1 Δ M1 Φ Q r1 (e.step st) (by simpa using hc) fun b H2 M2 r2 st2 hb => k b H2 M2 r2 (st.trans st2) hb
 | false => rw [if_neg Bool.false_ne_true]; exact k false H1 M1 r1 st (by simpa using hc)
theorem EJ (ha : DT X a tA) (hb : DW X (.BoolOp .Or (b :: rest) pos) tB') : DW X (.BoolOp .Or (a :: b :: rest) pos) (dOr tA tB') := by
 obtain ⟨t, p, q⟩ := ha
 obtain ⟨u, p2, q2⟩ := hb
 refine ⟨_, ZdJ p p2, fun σ H Δ M Φ Q r e h k => ?_⟩
 refine q σ H Δ M _ _ r e h fun c H1 M1 r1 st hc => ?_
 cases c with
 | false => rw [if_neg Bool.false_ne_true]; exact q2 σ H1 Δ M1 Φ Q r1 (e.step st) (by simpa using hc) fun b H2 M2 r2 st2 hb => k b H2 M2 r2 (st.trans st2) hb
 | true => rw [if_pos rfl]; exact k true H1 M1 r1 st (by simpa using hc)
theorem WN (ha : DT X a tA) : DT X (.UnaryOp .Not a pos) (ZfL tA) := by
 obtain ⟨t, p, q⟩ := ha
 exact ⟨_, ZcG p, fun σ H Δ M Φ Q r e h k => q σ H Δ M _ _ r e h fun c H1 M1 r1 st hc => k _ H1 M1 r1 st hc⟩
def Zcy (ta tb : DTE) : DTE := fun Δ M Φ => ta Δ M fun x M1 => onB x fun c => if c = true then tb Δ M1 Φ else Φ (.dat (.bool false)) M1
def Zfo (ta tb : DTE) : DTE := fun Δ M Φ => ta Δ M fun x M1 => onB x fun c => if c = true then Φ (.dat (.bool true)) M1 else tb Δ M1 Φ
def ZcY (ta : DTE) : DTE := fun Δ M Φ => ta Δ M fun x M1 => onB x fun c => Φ (.dat (.bool (!c))) M1
theorem YG {bop} (h : DE X a ta) : DE X (.BoolOp bop [a] pos) ta := by
 obtain ⟨t, p, q⟩ := h
 exact ⟨t, Zc0 p, q⟩
theorem Yn (ha : DE X a ta) (hb : DE X (.BoolOp .And (b :: rest) pos) tb) : DE X (.BoolOp .And (a :: b :: rest) pos) (Zcy ta tb) := by
 obtain ⟨t, p, q⟩ := ha
 obtain ⟨u, p2, q2⟩ := hb
 refine ⟨_, Zc8 p p2, fun σ H Δ M Φ Q r e h k => ?_⟩
 refine q σ H Δ M _ _ r e h fun v H1 x M1 r1 st rv hx => ?_
 replace hx := Xo hx
 obtain ⟨c, rfl, hx⟩ := hx
 refine ⟨c, rv.bool, ?_⟩
 cases c with
 | true => rw [if_pos rfl]; exact q2 σ H1 Δ M1 Φ Q r1 (e.step st) (by simpa using hx) (k.step st)
 | false => rw [if_neg Bool.false_ne_true]; exact k.dat r1 st (Dt.bl false) (by simpa using hx)
theorem Zeh (ha : DE X a ta) (hb : DE X (.BoolOp .Or (b :: rest) pos) tb) : DE X (.BoolOp .Or (a :: b :: rest) pos) (Zfo ta tb) := by
 obtain ⟨t, p, q⟩ := ha
 obtain ⟨u, p2, q2⟩ := hb
 refine ⟨_, Zdy p p2, fun σ H Δ M Φ Q r e h k => ?_⟩
 refine q σ H Δ M _ _ r e h fun v H1 x M1 r1 st rv hx => ?_
 replace hx := Xo hx
 obtain ⟨c, rfl, hx⟩ := hx
 refine ⟨c, rv.bool, ?_⟩
 cases c with
 | false => rw [if_neg Bool.false_ne_true]; exact q2 σ H1 Δ M1 Φ Q r1 (e.step st) (by simpa using hx) (k.step st)
 | true => rw [if_pos rfl]; exact k.dat r1 st (Dt.bl true) (by simpa using hx)
theorem ZcT (ha : DE X a ta) : DE X (.UnaryOp .Not a pos) (ZcY ta) := by
 obtain ⟨t, p, q⟩ := ha
 refine ⟨_, ZaX p, fun σ H Δ M Φ Q r e h k => ?_⟩
 refine q σ H Δ M _ _ r e h fun v H1 x M1 r1 st rv hx => ?_
 replace hx := Xo hx
 obtain ⟨c, rfl, hx⟩ := hx
 exact ⟨c, rv.bool, k.dat r1 st (Dt.bl (!c)) hx⟩
def dIf (t : DTT) (ta tb : DTE) : DTE := fun Δ M Φ => t Δ M fun c M1 => if c = true then ta Δ M1 Φ else tb Δ M1 Φ
def ZfO (g : Int → Int) (ta : DTE) : DTE := fun Δ M Φ => ta Δ M fun x M1 => onI x fun i => Φ (.dat (.int (g i))) M1
theorem Fg (ha : DE X a ta) : DE X (.UnaryOp .USub a pos) (ZfO (fun i => -i) ta) := by
 obtain ⟨t, p, q⟩ := ha
 refine ⟨_, ZdY ZbA p, fun σ H Δ M Φ Q r e h k => ?_⟩
 refine q σ H Δ M _ _ r e h fun v H1 x M1 r1 st rv hx => ?_
 replace hx := ZM hx
 obtain ⟨i, rfl, hx⟩ := hx
 exact ⟨i, rv.int, k.dat r1 st (Dt.int (-i)) hx⟩
def δI (C : Int → Int → Prop) (g : Int → Int → PyData) : D2 := fun x y M Φ => onI x fun i => onI y fun j => C i j ∧ Φ (.dat (g i j)) M
def δI0 (g : Int → Int → PyData) : D2 := fun x y M Φ => onI x fun i => onI y fun j => Φ (.dat (g i j)) M
theorem ZaP {f : Value → Value → Sem Value} {C : Int → Int → Prop} {g : Int → Int → Int} (h : OpR X f (rI C fun i j => .int (g i j))) : OpD X f (δI C fun i j => .int (g i j)) :=
 ⟨_, h, fun v u H x y M Φ Q r rv ru h k => by
  replace h := ZM h
  obtain ⟨i, e1, h⟩ := h
  replace h := ZM h
  obtain ⟨j, e2, hc, q⟩ := h
  subst e1 e2
  exact ⟨i, j, rv.int, ru.int, hc, k.dat r Step.refl (Dt.int _) q⟩⟩
theorem Zat {f : Value → Value → Sem Value} {g : Int → Int → Int} (h : OpR X f (rI0 fun i j => .int (g i j))) : OpD X f (δI0 fun i j => .int (g i j)) :=
 ⟨_, h, fun v u H x y M Φ Q r rv ru h k => by
  replace h := ZM h
  obtain ⟨i, e1, h⟩ := h
  replace h := ZM h
  obtain ⟨j, e2, q⟩ := h
  subst e1 e2
  exact ⟨i, j, rv.int, ru.int, k.dat r Step.refl (Dt.int _) q⟩⟩
theorem L8 {f : Value → Value → Sem Value} {g : Int → Int → Bool} (h : OpR X f (rI0 fun i j => .bl (g i j))) : OpD X f (δI0 fun i j => .bool (g i j)) :=
 ⟨_, h, fun v u H x y M Φ Q r rv ru h k => by
  replace h := ZM h
  obtain ⟨i, e1, h⟩ := h
  replace h := ZM h
  obtain ⟨j, e2, q⟩ := h
  subst e1 e2
  exact ⟨i, j, rv.int, ru.int, k.dat r Step.refl (Dt.bl _) q⟩⟩
theorem ZJ : OpD X (binaryOp .Add) (δI0 fun i j => .int (i + j)) := Zat Zax
theorem Z9 : OpD X (binaryOp .Sub) (δI0 fun i j => .int (i - j)) := Zat ZaY
theorem Jk : OpD X (binaryOp .Mult) (δI Zdu fun i j => .int (i * j)) := ZaP Za9
theorem GJ : OpD X (binaryOp .FloorDiv) (δI Zfa fun i j => .int (i / j)) := ZaP Tv
theorem Jp : OpD X (binaryOp .Mod) (δI (fun _ j => 0 < j) fun i j => .int (i % j)) := ZaP Zcg
theorem Wx : OpD X (binaryOp .Pow) (δI Zd3 fun i j => .int (i ^ j.toNat)) := ZaP Zcz
theorem Eh : OpD X (compareOp .Lt) (δI0 fun i j => .bool (decide (i < j))) := L8 ZdR
theorem UC : OpD X (compareOp .LtE) (δI0 fun i j => .bool (decide (i ≤ j))) := L8 Zd4
theorem Fi : OpD X (compareOp .Gt) (δI0 fun i j => .bool (decide (j < i))) := L8 ZeE
theorem Zeu : OpD X (compareOp .GtE) (δI0 fun i j => .bool (decide (j ≤ i))) := L8 Zel
def δB (g : Bool → Bool → Bool) : D2 := fun x y M Φ => onB x fun c => onB y fun d => Φ (.dat (.bool (g c d))) M
def ZaI : D2 := fun x y M Φ => onT x fun ds => onT y fun es => ds ≠ [] ∧ ds.length + es.length ≤ sizeLine ∧ Φ (.dat (.tuple (ds ++ es))) M
theorem Nw : OpR X (binaryOp .Add) (fun x y H Q => ∃ l b xs zs, x = .ref l ∧ y = .ref b ∧ SqL X.K H l xs ∧ SqL X.K H b zs ∧ xs.length + zs.length ≤ sizeLine ∧ ∀ p, H p = none → Q (.ref p) (upd H p (.lst (xs ++ zs)))) := by
 intro pins s σ H x y v u Q I rx ry h
 obtain ⟨l, b, xs, zs, rfl, rfl, hl, hb, hz, q⟩ := h
 cases rx
 cases ry
 obtain ⟨its, r1, p1, _⟩ := I.list hl
 obtain ⟨its2, r2, p2, _⟩ := I.list hb
 obtain ⟨⟨cls, dd, data, sl⟩, ho, hc, n, hd⟩ := p1.isList
 obtain ⟨⟨cls2, dd2, data2, sl2⟩, ho2, hc2, n2, hd2⟩ := p2.isList
 simp only at hc hd hc2 hd2
 subst hc hd hc2 hd2
 have e : its.toArray ++ its2.toArray = (its ++ its2).toArray := by simp
 have hsz : its.toArray.size + its2.toArray.size ≤ sizeLine := by rw [List.size_toArray, List.size_toArray, ← r1.length, ← r2.length]; exact hz
 refine concat_meets ⟨_, ho, rfl⟩ ⟨_, ho2, rfl⟩ noFill_list_add seq_list_add PySem.F.slot_list_add PySem.F.entry_list_add (PySem.F.args_list_add_2 _ _) (list_addW l b its.toArray its2.toArray n n2 dd dd2 sl sl2 hsz) ⟨ho, ho2, ?_⟩
 rw [e]
 exact ⟨.ref _, _, I.ZgU (t' := s.toks) (r1.append r2) (by rw [List.length_append]; exact hz), rfl, q _ I.fresh⟩
def ZcZ : D2 := fun x y M Φ => onL x fun ds => onL y fun es => ds.length + es.length ≤ sizeLine ∧ Φ (.dat (.list (ds ++ es))) M
def TJ : D2 := fun x y M Φ => onL x fun ds => onL y fun es => ds.length + es.length ≤ sizeLine ∧ ∀ p, M p = none → Φ (.own p) (Zv M p (.lst (ds ++ es)))
end
def Zfh : DTA := fun _ M Φ => Φ [] M
def Zbj (ta : DTE) (tr : DTA) : DTA := fun Δ M Φ => ta Δ M fun x M1 => tr Δ M1 fun xs M2 => Φ (x :: xs) M2
section
variable {X : Cx} {e : Expr} {es : List Expr} {te : DTE} {t : DTA} {pos : Pos}
theorem Zd : DA X [] Zfh := ⟨_, Xc, fun _ H _ M _ _ r _ h k => k [] H [] M r Step.refl .nil h⟩
theorem Za (ha : DE X e te) (hr : DA X es t) (hs : autoParam (starEach (e :: es) X.env = (false, eval e X.env) :: starEach es X.env) zz3._auto_1) : DA X (e :: es) (Zbj te t) := by
 obtain ⟨u, p, q⟩ := ha
 obtain ⟨w, p2, q2⟩ := hr
 refine ⟨_, JA p p2 hs, fun σ H Δ M Φ Q r e h k => ?_⟩
 refine q σ H Δ M _ _ r e h fun v H1 x M1 r1 st rv hx => ?_
 exact q2 σ H1 Δ M1 _ _ r1 (e.step st) hx fun vs H2 xs M2 r2 st2 rvs hxs => k (v :: vs) H2 (x :: xs) M2 r2 (st.trans st2) (.cons (rv.step st2) rvs) hxs
def Zfg (t : DTA) : DTE := fun Δ M Φ => t Δ M fun xs M1 => YY xs fun ds => Φ (.dat (.tuple ds)) M1
def Zfu (t : DTA) : DTE := fun Δ M Φ => t Δ M fun xs M1 => YY xs fun ds => Φ (.dat (.list ds)) M1
def Zbn (t : DTA) : DTE := fun Δ M Φ => t Δ M fun xs M1 => YY xs fun ds => ∀ p, M1 p = none → Φ (.own p) (Zv M1 p (.lst ds))
theorem ZH {x1} (h : DA X es t) : DE X (.Tuple es x1 pos) (Zfg t) := by
 obtain ⟨u, p, q⟩ := h
 refine ⟨_, OM p, fun σ H Δ M Φ Q r e h k => ?_⟩
 refine q σ H Δ M _ _ r e h fun vs H1 xs M1 r1 st rv hx => ?_
 replace hx := Gs hx
 obtain ⟨ds, rfl, hz', hx⟩ := hx
 have hz : ds.length ≤ sizeLine := by rw [sizeLine_eq]; omega
 have hd := rv.Zdl
 refine ⟨by rw [hd.length]; exact hz, fun p hp => ?_⟩
 exact k.dat (r1.new hp) (st.trans (Step.new hp)) (Dt.Wf r1 hp hd) hx
theorem Qf (h : DA X es t) : DE X (.List es pos) (Zfu t) := by
 obtain ⟨u, p, q⟩ := h
 refine ⟨_, OK p, fun σ H Δ M Φ Q r e h k => ?_⟩
 refine q σ H Δ M _ _ r e h fun vs H1 xs M1 r1 st rv hx => ?_
 replace hx := Gs hx
 obtain ⟨ds, rfl, hz', hx⟩ := hx
 have hz : ds.length ≤ sizeLine := by rw [sizeLine_eq]; omega
 have hd := rv.Zdl
 refine ⟨by rw [hd.length]; exact hz, fun p hp => ?_⟩
 exact k.dat (r1.new hp) (st.trans (Step.new hp)) (Dt.Jl r1 hp hd) hx
theorem Qg (h : DA X es t) : DE X (.List es pos) (Zbn t) := by
 obtain ⟨u, p, q⟩ := h
 refine ⟨_, OK p, fun σ H Δ M Φ Q r e h k => ?_⟩
 refine q σ H Δ M _ _ r e h fun vs H1 xs M1 r1 st rv hx => ?_
 replace hx := Gs hx
 obtain ⟨ds, rfl, hz', hx⟩ := hx
 have hz : ds.length ≤ sizeLine := by rw [sizeLine_eq]; omega
 have hd := rv.Zdl
 refine ⟨by rw [hd.length]; exact hz, fun p hp => ?_⟩
 exact k _ _ (.own p) _ (r1.VM (Step.Q4 hp) hd) (st.trans (Step.Q4 hp)) rfl (hx p (r1.tracked hp))
def ZfA (t : DTE) : DTE := fun Δ M Φ => t Δ M fun x M1 => onO x fun l => JC (M1 l) fun ds => Φ (.dat (.list ds)) (J5 M1 l)
theorem BL (h : DE X e te) : DE X e (ZfA te) := by
 obtain ⟨u, p, q⟩ := h
 refine ⟨u, p, fun σ H Δ M Φ Q r e h k => ?_⟩
 refine q σ H Δ M _ _ r e h fun v H1 x M1 r1 st rv hx => ?_
 replace hx := ZU hx
 obtain ⟨l, rfl, hx⟩ := hx
 replace hx := Qx hx
 obtain ⟨ds, hm, hx⟩ := hx
 obtain ⟨vs, e1, e2⟩ := r1.ls l ds hm
 cases (show v = .ref l from rv)
 exact k.dat r1.frz (st.trans Step.frz) (Dt.lst (.inl ⟨Wi, .inl e1⟩) (e2.step Step.frz)) hx
def UR : List PyData → Nat → (PyData → Prop) → Prop
 | [], _, _ => False
 | d :: _, 0, P => P d
 | _ :: r, n + 1, P => UR r n P
def VN (ds : List PyData) (i : Int) (P : PyData → Prop) : Prop := match i with
 | Int.ofNat n => UR ds n P
 | Int.negSucc n => UR ds.reverse n P
theorem Xr : ∀ {ds : List PyData} {n : Nat} {P : PyData → Prop}, UR ds n P → ∃ d, ds[n]? = some d ∧ P d
 | [], _, _, h => h.elim
 | d :: _, 0, _, h => ⟨d, rfl, h⟩
 | _ :: r, n + 1, _, h => by
  obtain ⟨d, e, hp⟩ := Xr (ds := r) (n := n) h
  exact ⟨d, by rw [List.getElem?_cons_succ]; exact e, hp⟩
theorem XS : ∀ {ds : List PyData} {n : Nat} {P : PyData → Prop} {d : PyData}, ds[n]? = some d → P d → UR ds n P
 | [], _, _, _, e, _ => by simp at e
 | d :: _, 0, _, _, e, h => by simp at e; subst e; exact h
 | _ :: r, n + 1, _, _, e, h => XS (ds := r) (n := n) (by rw [List.getElem?_cons_succ] at e; exact e) h
theorem TC {ds : List PyData} {i : Int} {P : PyData → Prop} (h : VN ds i P) : ∃ d, atI ds i = some d ∧ P d := by
 unfold VN at h
 split at h
 ·rename_i n
  replace h := Xr h
  obtain ⟨d, e, hp⟩ := h
  exact ⟨d, J4 e, hp⟩
 ·rename_i n
  replace h := Xr h
  obtain ⟨d, e, hp⟩ := h
  refine ⟨d, ?_, hp⟩
  have hl := (List.getElem?_eq_some_iff.mp e).1
  rw [List.length_reverse] at hl
  rw [List.getElem?_reverse hl] at e
  unfold L2.atI ixN
  have e1 : ¬ (0 ≤ Int.negSucc n) := by omega
  rw [if_neg e1]
  have e2 : -(ds.length : Int) ≤ Int.negSucc n := by omega
  rw [if_pos e2]
  have e3 : (Int.negSucc n + (ds.length : Int)).toNat = ds.length - 1 - n := by omega
  simp only [e3]
  exact e
theorem JW {ds : List PyData} {i : Int} {P : PyData → Prop} {d : PyData} (e : atI ds i = some d) (h : P d) : VN ds i P := by
 unfold L2.atI at e
 cases i with
 | ofNat n =>
  have hh : ixN ds.length (Int.ofNat n) = if n < ds.length then some n else none := by
   unfold ixN
   rw [if_pos (show (0 : Int) ≤ Int.ofNat n from Int.natCast_nonneg n)]
   by_cases hn : n < ds.length
   ·rw [if_pos hn, if_pos (show Int.ofNat n < _ by show ((n : Nat) : Int) < _; omega)]
    rfl
   ·rw [if_neg hn, if_neg (show ¬ Int.ofNat n < _ by show ¬ ((n : Nat) : Int) < _; omega)]
  rw [hh] at e
  split at e
  ·exact XS (by exact e) h
  ·cases e
 | negSucc n =>
  unfold ixN at e
  rw [if_neg (by omega)] at e
  by_cases hn : -(ds.length : Int) ≤ Int.negSucc n
  ·rw [if_pos hn] at e
   have e3 : (Int.negSucc n + (ds.length : Int)).toNat = ds.length - 1 - n := by omega
   simp only [e3] at e
   refine XS (d := d) ?_ h
   rw [List.getElem?_reverse (by omega)]
   exact e
  ·rw [if_neg hn] at e
   cases e
theorem Dg (l : List PyData) (a : PyData) (P : PyData → Prop) : VN (l ++ [a]) (-1) P = P a := by
 show UR (l ++ [a]).reverse 0 P = P a
 rw [List.reverse_append]
 rfl
def δIx : D2 := fun x y M Φ => onQ x M fun ds => onI y fun i => VN ds i fun d => Φ (.dat d) M
theorem Dts.atI {K : PySem.W.Frag} {M : Mp} {H : Hp} {vs : List V} {ds : List PyData} {i : Int} {d : PyData} (h : Dts K M H vs ds) (e : L2.atI ds i = some d) : ∃ v, L2.atI vs i = some v ∧ Dt K M H v d := by
 unfold L2.atI at e ⊢
 rw [h.length]
 cases q : ixN ds.length i with
 | none => rw [q] at e; cases e
 | some j =>
  rw [q] at e
  exact h.get e
theorem Zh {a b : Expr} {ta tb : DTE} (ha : DE X a ta) (hb : DE X b tb) (hs : autoParam (GG b) zz7._auto_1) : DE X (.Subscript a b pos) (dOp δIx ta tb) := by
 obtain ⟨ta', pa, qa⟩ := ha
 obtain ⟨tb', pb, qb⟩ := hb
 refine ⟨_, Zao Zbl pa pb hs, Snd.opn qa qb fun v u H x y M Φ Q r rv ru h k => ?_⟩
 replace h := G5 h
 obtain ⟨ds, hx, h⟩ := h
 replace h := ZM h
 obtain ⟨i, rfl, h⟩ := h
 replace h := TC h
 obtain ⟨d, hd, q⟩ := h
 cases ru.int
 rcases hx with rfl | rfl | ⟨l, rfl, hm⟩
 ·obtain ⟨p, xs, rfl, h1, h2⟩ := rv.tup
  obtain ⟨w', e1, e2⟩ := h2.atI hd
  exact .inr (.inl ⟨p, xs, i, w', rfl, rfl, h1.sq, e1, k.dat r Step.refl e2 q⟩)
 ·obtain ⟨p, xs, rfl, h1, h2⟩ := rv.lst
  obtain ⟨w', e1, e2⟩ := h2.atI hd
  exact .inl ⟨p, xs, i, w', rfl, rfl, h1.sq, e1, k.dat r Step.refl e2 q⟩
 ·cases (show v = .ref l from rv)
  obtain ⟨vs, g1, g2⟩ := r.ls l ds hm
  obtain ⟨w', e1, e2⟩ := g2.atI hd
  exact .inl ⟨l, vs, i, w', rfl, rfl, SqL.of g1, e1, k.dat r Step.refl e2 q⟩
end
abbrev D1 := List DV → Mp → DK → Prop
def QC (X : Cx) (f : Value) (δ : D1) : Prop := ∃ r, QF X f r ∧ ∀ vs H xs M Φ Q, ZK X.K M H → Vn X.K M H vs xs → δ xs M Φ → Rch X.K M H Φ Q → r vs H Q
def dCB (δ : D1) (t : DTA) : DTE := fun Δ M Φ => t Δ M fun xs M1 => δ xs M1 Φ
section
variable {X : Cx} {e : Expr} {es : List Expr} {t : DTA} {pos p : Pos} {x : Str} {id : String} {δ : D1}
theorem Zm (hc : QC X (.builtin id) δ) (hg : Gl X x) (hm : X.mg x = none) (hv : bootBuiltins x = some (.builtin id)) (ha : DA X (e :: es) t) (hn : autoParam (x ≠ "__name__") zz1._auto_1) (hdb : autoParam ((x == ("__debug__" : Str)) = false) zz1._auto_1)
  (he : autoParam (starEach (e :: es) X.env = (false, eval e X.env) :: starEach es X.env) zz3._auto_1) (hpl : autoParam ((backTo pos (starEach es X.env)).any (·.1) = false) zz3._auto_1) : DE X (.Call (.Name x p) (e :: es) [] pos) (dCB δ t) := by
 obtain ⟨u, p, q⟩ := ha
 obtain ⟨r, hr, qr⟩ := hc
 refine ⟨_, Bp hr hg hm hv p hn hdb he hpl, fun σ H Δ M Φ Q r e h k => ?_⟩
 exact q σ H Δ M _ _ r e h fun vs H1 xs M1 r1 st rv hx => qr vs H1 xs M1 _ _ r1 rv hx (k.step st)
theorem Z5 (hc : QC X (.type id) δ) (hg : Gl X x) (hm : X.mg x = none) (hv : bootBuiltins x = some (.type id)) (ha : DA X (e :: es) t) (hn : autoParam (x ≠ "__name__") zz1._auto_1) (hdb : autoParam ((x == ("__debug__" : Str)) = false) zz1._auto_1)
  (he : autoParam (starEach (e :: es) X.env = (false, eval e X.env) :: starEach es X.env) zz3._auto_1) (hpl : autoParam ((backTo pos (starEach es X.env)).any (·.1) = false) zz3._auto_1) : DE X (.Call (.Name x p) (e :: es) [] pos) (dCB δ t) := by
 obtain ⟨u, p, q⟩ := ha
 obtain ⟨r, hr, qr⟩ := hc
 refine ⟨_, EE hr hg hm hv p hn hdb he hpl, fun σ H Δ M Φ Q r e h k => ?_⟩
 exact q σ H Δ M _ _ r e h fun vs H1 xs M1 r1 st rv hx => qr vs H1 xs M1 _ _ r1 rv hx (k.step st)
theorem Paired.one {α β : Type} {F : α → β → Prop} {l : List α} {b : β} (h : Paired F l [b]) : ∃ a, l = [a] ∧ F a b := by
 cases h with
 | cons h1 h2 => cases h2; exact ⟨_, rfl, h1⟩
theorem Paired.two {α β : Type} {F : α → β → Prop} {l : List α} {b c : β} (h : Paired F l [b, c]) : ∃ a a', l = [a, a'] ∧ F a b ∧ F a' c := by
 cases h with
 | cons h1 h2 =>
  obtain ⟨a, rfl, h3⟩ := Paired.one h2
  exact ⟨_, a, rfl, h1, h3⟩
def Zc1 : D1 := fun xs M Φ => on1 xs fun x => onQ x M fun ds => Φ (.dat (.int ds.length)) M
theorem VO : QC X (.builtin "len") Zc1 := by
 refine ⟨_, WV, fun vs H xs M Φ Q r rv h k => ?_⟩
 replace h := ZS h
 obtain ⟨x, rfl, h⟩ := h
 replace h := G5 h
 obtain ⟨ds, hx, q⟩ := h
 have fin : Q (.int ds.length) H := k.dat r Step.refl (Dt.int _) q
 rcases hx with rfl | rfl | ⟨l, rfl, hm⟩
 ·obtain ⟨v, rfl, h1⟩ := Paired.one rv
  obtain ⟨p, ys, rfl, g1, g2⟩ := Qd.tup h1
  exact ⟨p, ys, rfl, .inr g1.sq, by rw [g2.length]; exact fin⟩
 ·obtain ⟨v, rfl, h1⟩ := Paired.one rv
  obtain ⟨p, ys, rfl, g1, g2⟩ := Qd.lst h1
  exact ⟨p, ys, rfl, .inl g1.sq, by rw [g2.length]; exact fin⟩
 ·obtain ⟨v, rfl, h1⟩ := Paired.one rv
  cases (show v = .ref l from h1)
  obtain ⟨ws, g1, g2⟩ := r.ls l ds hm
  exact ⟨l, ws, rfl, .inl (SqL.of g1), by rw [g2.length]; exact fin⟩
def T8 : D1 := fun xs M Φ => on1 xs fun x => onS x fun z => z.length ≤ sizeLine ∧ Φ (.dat (.int z.length)) M
def Zc6 : D1 := fun xs M Φ => on1 xs fun x => onI x fun i => i.natAbs.log2 < 1920 ∧ Φ (.dat (.str (toString i))) M
def ZcI : D1 := fun xs M Φ => on1 xs fun x => onI x fun i => Φ (.dat (.int (if i < 0 then -i else i))) M
theorem OG : QC X (.builtin "abs") ZcI := by
 refine ⟨_, MI, fun vs H xs M Φ Q r rv h k => ?_⟩
 replace h := ZS h
 obtain ⟨x, rfl, h⟩ := h
 replace h := ZM h
 obtain ⟨i, rfl, q⟩ := h
 obtain ⟨v, rfl, h1⟩ := Paired.one rv
 exact ⟨i, by rw [Qd.int h1], k.dat r Step.refl (Dt.int _) q⟩
def δ2I (g : Int → Int → Int) : D1 := fun xs M Φ => on2 xs fun x y => onI x fun i => onI y fun j => Φ (.dat (.int (g i j))) M
theorem Ul (hc : X.calm = true) : QC X (.builtin "max") (δ2I fun i j => max i j) := by
 refine ⟨_, EO hc, fun vs H xs M Φ Q r rv h k => ?_⟩
 replace h := ZL h
 obtain ⟨x, y, rfl, h⟩ := h
 replace h := ZM h
 obtain ⟨i, rfl, h⟩ := h
 replace h := ZM h
 obtain ⟨j, rfl, q⟩ := h
 obtain ⟨v, u, rfl, h1, h2⟩ := Paired.two rv
 have e : (if j > i then j else i) = max i j := by rw [Int.max_def]; split <;> split <;> omega
 exact ⟨i, j, by rw [Qd.int h1, Qd.int h2], by rw [e]; exact k.dat r Step.refl (Dt.int _) q⟩
theorem E2 (hc : X.calm = true) : QC X (.builtin "min") (δ2I fun i j => min i j) := by
 refine ⟨_, E4 hc, fun vs H xs M Φ Q r rv h k => ?_⟩
 replace h := ZL h
 obtain ⟨x, y, rfl, h⟩ := h
 replace h := ZM h
 obtain ⟨i, rfl, h⟩ := h
 replace h := ZM h
 obtain ⟨j, rfl, q⟩ := h
 obtain ⟨v, u, rfl, h1, h2⟩ := Paired.two rv
 have e : (if j < i then j else i) = min i j := by rw [Int.min_def]; split <;> split <;> omega
 exact ⟨i, j, by rw [Qd.int h1, Qd.int h2], by rw [e]; exact k.dat r Step.refl (Dt.int _) q⟩
def GY : D1 := fun xs M Φ => on1 xs fun x => onQ x M fun ds => Φ (.dat (.list ds)) M
theorem Ea : QC X (.type "list") GY := by
 refine ⟨_, K0, fun vs H xs M Φ Q r rv h k => ?_⟩
 replace h := ZS h
 obtain ⟨x, rfl, h⟩ := h
 replace h := G5 h
 obtain ⟨ds, hx, q⟩ := h
 rcases hx with rfl | rfl | ⟨l0, rfl, hm⟩
 ·obtain ⟨v, rfl, h1⟩ := Paired.one rv
  obtain ⟨p, ys, rfl, g1, g2⟩ := Qd.tup h1
  exact ⟨p, ys, rfl, .inr g1.sq, fun l hl => k.dat (r.new hl) (Step.new hl) (Dt.Jl r hl g2) q⟩
 ·obtain ⟨v, rfl, h1⟩ := Paired.one rv
  obtain ⟨p, ys, rfl, g1, g2⟩ := Qd.lst h1
  exact ⟨p, ys, rfl, .inl g1.sq, fun l hl => k.dat (r.new hl) (Step.new hl) (Dt.Jl r hl g2) q⟩
 ·obtain ⟨v, rfl, h1⟩ := Paired.one rv
  cases (show v = .ref l0 from h1)
  obtain ⟨ws, g1, g2⟩ := r.ls l0 ds hm
  exact ⟨l0, ws, rfl, .inl (SqL.of g1), fun l hl => k.dat (r.new hl) (Step.new hl) (Dt.Jl r hl g2) q⟩
end
end DL
namespace DL
open PySem PySem.Spec PyProof.Rows L2
mutual
noncomputable def Qa : PyData → Bool
 | .none | .bool _ | .int _ | .str _ => false
 | .list _ => true
 | .tuple xs => ZZ xs
 | .dict kvs => JD kvs
noncomputable def ZZ : List PyData → Bool
 | [] => false
 | x :: xs => Qa x || ZZ xs
noncomputable def JD : List (PyData × PyData) → Bool
 | [] => false
 | (k, v) :: r => Qa k || Qa v || JD r
end
theorem Jw : ∀ (ks ds : List PyData), ks.length = ds.length → JD (ks.zip ds) = false → ZZ ds = false
 | [], [], _, _ => by simp [ZZ]
 | k :: ks, d :: ds, h, e => by
  rw [List.zip_cons_cons, JD] at e
  have e' : (Qa k = false ∧ Qa d = false) ∧ JD (ks.zip ds) = false := by simpa using e
  rw [ZZ, e'.1.2, Jw ks ds (by simpa using h) e'.2]; rfl
 | [], _ :: _, h, _ => by simp at h
 | _ :: _, [], h, _ => by simp at h
section
variable {X : Cx} {pins : List (Addr × Obj)} {σ : L2.St} {H : Hp} {s : Shared} {M : Mp}
theorem K8 {h : Heap} {P : Program} {w : World} : ∀ {es : List DictEntry} {kvs : List (Key × Value)}, Pairs (ZW P w) es kvs → ReadsAll h (es.map (·.key)) (kvs.map fun kv => kD kv.1) []
 | _, _, .nil => .nil
 | _, _, .cons (e := e) (kv := kv) h1 _ h3 => by
  rw [List.map_cons, List.map_cons]
  have hk : Reads h e.key (kD kv.1) [] := by
   rcases ZX (k := kv.1) (v := e.key) h1 with ⟨i, t, e1, e2⟩ | ⟨x, t, e1, e2⟩
   ·rw [e1, e2]; exact .int i t
   ·rw [e1, e2]; exact .str x t
  exact .cons (as := []) (bs := []) hk (K8 h3)
theorem Y8 {P : Program} {w : World} : ∀ {es : List DictEntry} {kvs : List (Key × Value)}, Pairs (ZW P w) es kvs → es.map (·.val) = kvs.map (·.2)
 | _, _, .nil => rfl
 | _, _, .cons h1 h2 h3 => by rw [List.map_cons, List.map_cons, h2, Y8 h3]
theorem KV.vals {kvs : List (Key × V)} {vs : List (Key × Value)} (r : KV kvs vs) : Vals (kvs.map (·.2)) (vs.map (·.2)) ∧ (kvs.map fun kv => kD kv.1) = vs.map fun kv => kD kv.1 := by
 unfold KV at r
 induction r with
 | nil => exact ⟨.nil, rfl⟩
 | cons h _ ih => exact ⟨.cons h.2 ih.1, by rw [List.map_cons, List.map_cons, h.1, ih.2]⟩
theorem HJ {h : Heap} : ∀ {ks : List Key} {us : List Value}, Vals (ks.map kV) us → ReadsAll h us (ks.map kD) []
 | [], _, r => by rw [List.map_nil] at r; cases r; exact .nil
 | k :: ks, _, r => by
  rw [List.map_cons] at r
  cases r with
  | cons r1 r2 =>
   rw [List.map_cons]
   refine .cons (as := []) (bs := []) ?_ (HJ r2)
   cases k with
   | inl i => obtain ⟨t, rfl⟩ := r1; exact .int i t
   | inr x => obtain ⟨t, rfl⟩ := r1; exact .str x t
theorem KT.read (I : Inv X pins σ H s) {kvs : List (List Key × V)} {xs : List (List Key × Addr × Value)} (r : KT H kvs xs) :
  ReadsAll s.heap (xs.map fun x => Value.ref x.2.1) (kvs.map fun kv => PyData.tuple (kv.1.map kD)) [] ∧ Vals (kvs.map (·.2)) (xs.map fun x => x.2.2) := by
 induction r with
 | nil => exact ⟨.nil, .nil⟩
 | @cons p q ps qs h _ ih =>
  obtain ⟨its, r, ⟨o, ho, hc, n, hd⟩, _⟩ := I.tuple (SqT.of (K := X.K) h.2.1)
  rw [List.map_cons, List.map_cons, List.map_cons, List.map_cons]
  exact ⟨.cons (as := []) (bs := []) (.tuple ho hc hd (by simpa using HJ r)) ih.1, .cons h.2.2 ih.2⟩
mutual
theorem Dt.reads (I : Inv X pins σ H s) : ∀ {v : V} {d : PyData}, Dt X.K M H v d → ∀ {u : Value}, RelV v u → ∃ as, Reads s.heap u d as ∧ (Qa d = false → sysModules ∉ as)
 | _, _, .non, _, r => by cases r; exact ⟨[], .none, fun _ h => nomatch h⟩
 | _, _, .bl b, _, r => by cases r; exact ⟨[], .bool b, fun _ h => nomatch h⟩
 | _, _, .int i, _, r => by obtain ⟨t, rfl⟩ := r; exact ⟨[], .int i t, fun _ h => nomatch h⟩
 | _, _, .str x, _, r => by obtain ⟨t, rfl⟩ := r; exact ⟨[], .str x t, fun _ h => nomatch h⟩
 | _, _, .tup h1 h2, _, r => by
  cases r
  obtain ⟨its, rv, ⟨o, ho, hc, n, hd⟩, _⟩ := I.tuple h1.sq
  obtain ⟨as, ra, hs⟩ := Dts.reads I h2 rv
  exact ⟨as, .tuple ho hc hd (by simpa using ra), fun h => hs (by simpa [Qa] using h)⟩
 | _, _, .lst h1 h2, _, r => by
  cases r
  obtain ⟨its, rv, ⟨o, n, ho, hc, _, hd⟩, _⟩ := I.list h1.sq
  obtain ⟨as, ra, hs⟩ := Dts.reads I h2 rv
  exact ⟨_, .list ho hc hd (by simpa using ra), fun h => by simp [Qa] at h⟩
 | _, _, .dK (a := a) (kvs := kvs) (ds := ds) h0 h1 h2, _, r => by
  cases r
  obtain ⟨_, hsys, vs, rel, o, es, ep, ho, hc, hd, _, hp, _⟩ := (show Qh X.prog X.w H s.heap a (.dK kvs) from I.hok a _ h1)
  obtain ⟨rv, hk⟩ := KV.vals rel
  obtain ⟨bs, rb, hs⟩ := Dts.reads I h2 rv
  have hl : (kvs.map fun kv => kD kv.1).length = ds.length := by rw [List.length_map, ← h2.length, List.length_map]
  refine ⟨a :: [] ++ bs, .dict (as := []) ho hc.1 hd ?_ ?_, fun h => ?_⟩
  ·rw [List.map_fst_zip (Nat.le_of_eq hl), hk]
   exact K8 hp
  ·rw [List.map_snd_zip (Nat.le_of_eq hl.symm), Y8 hp]
   exact rb
  ·have h' : ZZ ds = false := Jw _ _ hl (by rw [Qa] at h; exact h)
   intro hm
   rcases List.mem_cons.mp hm with e | hm
   ·rw [← e] at hsys
    simp at hsys
   ·exact hs h' hm
 | _, _, .dT (a := a) (kvs := kvs) (ds := ds) h0 h1 h2, _, r => by
  cases r
  obtain ⟨_, hsys, xs, rel, o, es, ep, ho, hc, hd, he, _⟩ := (show Qh X.prog X.w H s.heap a (.dT kvs) from I.hok a _ h1)
  obtain ⟨rk, rv⟩ := KT.read I rel
  obtain ⟨bs, rb, hs⟩ := Dts.reads I h2 rv
  have hl : (kvs.map fun kv => PyData.tuple (kv.1.map kD)).length = ds.length := by rw [List.length_map, ← h2.length, List.length_map]
  refine ⟨a :: [] ++ bs, .dict (as := []) ho hc.1 hd ?_ ?_, fun h => ?_⟩
  ·rw [List.map_fst_zip (Nat.le_of_eq hl), he, List.map_map]
   exact rk
  ·rw [List.map_snd_zip (Nat.le_of_eq hl.symm), he, List.map_map]
   exact rb
  ·have h' : ZZ ds = false := Jw _ _ hl (by rw [Qa] at h; exact h)
   intro hm
   rcases List.mem_cons.mp hm with e | hm
   ·rw [← e] at hsys
    simp at hsys
   ·exact hs h' hm
 | _, _, .dX (a := a) (dk := dk) (d := d) h0 h1 hsys h3 h4 h5, _, r => by
  cases r
  obtain ⟨hφ, _⟩ := (show Qh X.prog X.w H s.heap a (.ext _) from I.hok a _ h1)
  obtain ⟨o, es, n, u, ho, hc, hd, ek, ev, ru⟩ := h3 s.heap hφ
  obtain ⟨as, ra, ha⟩ := Dt.reads I h4 (u := .ref _) rfl
  obtain ⟨bs, rb, hb⟩ := Dt.reads I h5 ru
  refine ⟨a :: (as ++ []) ++ (bs ++ []), .dict ho hc hd ?_ ?_, fun h => ?_⟩
  ·rw [ek]; exact .cons ra .nil
  ·rw [ev]; exact .cons rb .nil
  ·have h' : Qa dk = false ∧ Qa d = false := by simpa [Qa, JD] using h
   intro hm
   rw [List.append_nil, List.append_nil, List.cons_append] at hm
   rcases List.mem_cons.mp hm with e | hm
   ·rw [← e] at hsys
    simp at hsys
   ·rcases List.mem_append.mp hm with hm | hm
    ·exact ha h'.1 hm
    ·exact hb h'.2 hm
theorem Dts.reads (I : Inv X pins σ H s) : ∀ {vs : List V} {ds : List PyData}, Dts X.K M H vs ds → ∀ {us : List Value}, Vals vs us → ∃ as, ReadsAll s.heap us ds as ∧ (ZZ ds = false → sysModules ∉ as)
 | _, _, .nil, _, r => by cases r; exact ⟨[], .nil, fun _ h => nomatch h⟩
 | _, _, .cons (d := d) (ds := ds) h1 h2, _, r => by
  cases r with
  | cons r1 r2 =>
   obtain ⟨as, ra, ha⟩ := Dt.reads I h1 r1
   obtain ⟨bs, rb, hb⟩ := Dts.reads I h2 r2
   refine ⟨as ++ bs, .cons ra rb, fun h hm => ?_⟩
   have h' : Qa d = false ∧ ZZ ds = false := by simpa [ZZ] using h
   rcases List.mem_append.mp hm with hm | hm
   ·exact ha h'.1 hm
   ·exact hb h'.2 hm
end
end
section
variable {X : Cx}
theorem CA (hg : X.A.guards = some []) (hu : X.A.units + 100 < cLine) : QF X (.builtin "repr") (fun xs H Q => ∃ v d M, xs = [v] ∧ Dt X.K M H v d ∧ d.showable = true ∧ (d.hasDict && Qa d) = false ∧ d.depth ≤ 64 ∧
  d.shown.length ≤ sizeLine ∧ Q (.str d.shown) H) := by
 intro pins s σ H xs us Q I r h
 obtain ⟨v, d, M, rfl, hd, hs, hm, hdp, hz, q⟩ := h
 obtain ⟨u, rfl, ru⟩ := vals1 r
 have ref : ∀ a, u = .ref a → wpAny (model X.prog X.w) X.A (call (.builtin "repr") [u]) (EP X pins σ Q) X.xe s := fun a e => by
  obtain ⟨as, ra, hsm⟩ := hd.reads I ru
  subst e
  refine repr_of_reads' ra hs (fun hx => hsm ?_) hg (by omega) (fun _ _ e => e) (fun h' u tk k => ⟨.str d.shown, H, I.kept k, ⟨_, rfl⟩, q⟩) hz
  rw [hx, Bool.true_and] at hm
  exact hm
 cases hd with
 | non => cases ru; simp only [PyData.shown] at q; exact PySem.P.repr_of_none ⟨.str _, H, I.tok _, ⟨_, rfl⟩, q⟩
 | bl b => cases ru; simp only [PyData.shown] at q; exact PySem.P.repr_of_bool ⟨.str _, H, I.tok _, ⟨_, rfl⟩, q⟩
 | int i => obtain ⟨t, rfl⟩ := ru; simp only [PyData.shown] at q; exact PySem.P.repr_of_int (by simpa [PyData.showable] using hs) ⟨.str _, H, I.tok _, ⟨_, rfl⟩, q⟩
 | str x => obtain ⟨t, rfl⟩ := ru; simp only [PyData.shown] at q hz; exact PySem.P.repr_of_str ⟨.str _, H, I.tok _, ⟨_, rfl⟩, q⟩ hz
 | tup _ _ => exact ref _ ru
 | lst _ _ => exact ref _ ru
 | dK _ _ _ => exact ref _ ru
 | dT _ _ _ => exact ref _ ru
 | dX _ _ _ _ _ _ => exact ref _ ru
structure Shw (d : PyData) : Prop where
 s : d.showable = true
 m : (d.hasDict && Qa d) = false
 dp : d.depth ≤ 64
 z : d.shown.length ≤ sizeLine
def OQ : D1 := fun xs M Φ => on1 xs fun x => onD x fun d => Shw d ∧ Φ (.dat (.str d.shown)) M
theorem DC {k : Nat} (hr : Ji k X.A) : QC X (.builtin "repr") OQ := by
 refine ⟨_, CA hr.gd (by have := hr.un; omega), fun vs H xs M Φ Q r rv h k => ?_⟩
 replace h := ZS h
 obtain ⟨x, rfl, h⟩ := h
 replace h := QK h
 obtain ⟨d, rfl, hs, q⟩ := h
 obtain ⟨v, rfl, h1⟩ := Paired.one rv
 exact ⟨v, d, M, rfl, h1, hs.s, hs.m, hs.dp, hs.z, k.dat r Step.refl (Dt.str _) q⟩
noncomputable def tyN : PyData → String
 | .none => "NoneType"
 | .bool _ => "bool"
 | .int _ => "int"
 | .str _ => "str"
 | .list _ => "list"
 | .tuple _ => "tuple"
 | .dict _ => "dict"
theorem Wo : QF X (.builtin "isinstance") (fun xs H Q => ∃ v d M T b, xs = [v, .ty T] ∧ Dt X.K M H v d ∧ PySem.W.kitOne X.K (.type (tyN d)) (.type T) = some b ∧ Q (.bl b) H) := by
 intro pins s σ H xs us Q I r h
 obtain ⟨v, d, M, T, b, rfl, hd, e, q⟩ := h
 obtain ⟨u, w', rfl, ru, rt⟩ := vals2 r
 cases (show w' = Value.type T from rt)
 have fin : ∀ tk, EP X pins σ Q (.bool b) { s with toks := tk } := fun tk => ⟨.bl b, H, I.tok tk, rfl, q⟩
 cases hd with
 | non => cases ru; exact PySem.W.kia_one PySem.W.kitx_none I.kIn True.intro e (fun z => nomatch z) fin
 | bl y => cases ru; exact PySem.W.kia_one PySem.W.kitx_bool I.kIn True.intro e (fun z => nomatch z) fin
 | int i => obtain ⟨t, rfl⟩ := ru; exact PySem.W.kia_one PySem.W.kitx_int I.kIn True.intro e (fun z => nomatch z) fin
 | str y => obtain ⟨t, rfl⟩ := ru; exact PySem.W.kia_one PySem.W.kitx_str I.kIn True.intro e (fun z => nomatch z) fin
 | tup h1 _ =>
  cases ru
  obtain ⟨_, _, ⟨o, ho, hc, _⟩, _⟩ := I.tuple h1.sq
  exact PySem.W.kia_one PySem.W.kitx_tuple I.kIn ⟨o, ho, hc⟩ e (fun z => nomatch z) fin
 | lst h1 _ =>
  cases ru
  obtain ⟨_, _, ⟨o, n, ho, hc, _⟩, _⟩ := I.list h1.sq
  exact PySem.W.kia_one PySem.W.kitx_list I.kIn ⟨o, ho, hc⟩ e (fun z => nomatch z) fin
 | dK _ h1 _ =>
  cases ru
  obtain ⟨_, _, vs, _, p⟩ := (show Qh X.prog X.w H s.heap _ (.dK _) from I.hok _ _ h1)
  obtain ⟨o, es, ep, g1, g2, _⟩ := p
  exact PySem.W.kia_one PySem.W.kitx_dict I.kIn ⟨o, g1, g2.1⟩ e (fun z => nomatch z) fin
 | dT _ h1 _ =>
  cases ru
  obtain ⟨_, _, xs, _, o, es, ep, g1, g2, _⟩ := (show Qh X.prog X.w H s.heap _ (.dT _) from I.hok _ _ h1)
  exact PySem.W.kia_one PySem.W.kitx_dict I.kIn ⟨o, g1, g2.1⟩ e (fun z => nomatch z) fin
 | dX _ h1 _ h3 _ _ =>
  cases ru
  obtain ⟨hφ, _⟩ := (show Qh X.prog X.w H s.heap _ (.ext _) from I.hok _ _ h1)
  obtain ⟨o, es, n, u, ho, hc, _⟩ := h3 s.heap hφ
  exact PySem.W.kia_one PySem.W.kitx_dict I.kIn ⟨o, ho, hc⟩ e (fun z => nomatch z) fin
noncomputable def ZD (T : String) (d : PyData) : Bool := tyN d == T || (T == "int" && tyN d == "bool")
theorem Rp (K : PySem.W.Frag) (d : PyData) : PySem.W.kitOne K (.type (tyN d)) (.type "int") = some (ZD "int" d) := by cases d <;> rfl
theorem Me (K : PySem.W.Frag) (d : PyData) : PySem.W.kitOne K (.type (tyN d)) (.type "bool") = some (ZD "bool" d) := by cases d <;> rfl
theorem Bz (K : PySem.W.Frag) (d : PyData) : PySem.W.kitOne K (.type (tyN d)) (.type "list") = some (ZD "list" d) := by cases d <;> rfl
theorem EA (K : PySem.W.Frag) (d : PyData) : PySem.W.kitOne K (.type (tyN d)) (.type "str") = some (ZD "str" d) := by cases d <;> rfl
def PZ (T : String) : D1 := fun xs M Φ => match xs with | [.dat d, .ty t] => t = T ∧ Φ (.dat (.bool (ZD T d))) M | _ => False
theorem WK {T : String} (ht : ∀ d, PySem.W.kitOne X.K (.type (tyN d)) (.type T) = some (ZD T d)) : QC X (.builtin "isinstance") (PZ T) := by
 refine ⟨_, Wo, fun vs H xs M Φ Q r rv h k => ?_⟩
 replace h : ∃ d, xs = [.dat d, .ty T] ∧ Φ (.dat (.bool (ZD T d))) M := by
  unfold PZ at h
  split at h
  ·exact ⟨_, by rw [h.1], h.2⟩
  ·exact h.elim
 obtain ⟨d, rfl, q⟩ := h
 obtain ⟨v, u, rfl, h1, h2⟩ := Paired.two rv
 cases (show u = .ty T from h2)
 exact ⟨v, d, M, T, _, rfl, h1, ht d, k.dat r Step.refl (Dt.bl _) q⟩
theorem TR (hu : X.A.units + 64 < cLine) : OpR X (compareOp .Eq) (fun x y H Q => ∃ M d e, Dt X.K M H x d ∧ Dt X.K M H y e ∧ d.canLay0 = true ∧ e.canLay0 = true ∧ min d.depth e.depth ≤ 64 ∧ Q (.bl (PyData.eqv d e)) H) := by
 intro pins s σ H x y v u Q I rx ry h
 obtain ⟨M, d, e, h1, h2, c1, c2, hdp, q⟩ := h
 obtain ⟨as, ra, _⟩ := h1.reads I rx
 obtain ⟨bs, rb, _⟩ := h2.reads I ry
 exact PySem.SeqAt.compareEq_reads ra rb c1 c2 (by omega) ⟨.bl _, H, I, rfl, q⟩
theorem ZaV (hu : X.A.units + 64 < cLine) : OpR X (compareOp .NotEq) (fun x y H Q => ∃ M d e, Dt X.K M H x d ∧ Dt X.K M H y e ∧ d.canLay0 = true ∧ e.canLay0 = true ∧ min d.depth e.depth ≤ 64 ∧ Q (.bl (!PyData.eqv d e)) H) := by
 intro pins s σ H x y v u Q I rx ry h
 obtain ⟨M, d, e, h1, h2, c1, c2, hdp, q⟩ := h
 obtain ⟨as, ra, _⟩ := h1.reads I rx
 obtain ⟨bs, rb, _⟩ := h2.reads I ry
 exact PySem.SeqAt.compareNe_reads ra rb c1 c2 (by omega) ⟨.bl _, H, I, rfl, q⟩
noncomputable def HM (d e : PyData) : Bool := d.canLay0 && e.canLay0 && Nat.ble (min d.depth e.depth) 64
def eqD : PyData → PyData → (Bool → Prop) → Prop
 | .int i, .int j, P => P (decide (i = j))
 | .str s, .str t, P => P (decide (s = t))
 | .bool a, .bool b, P => P (a == b)
 | d, e, P => HM d e = true ∧ P (PyData.eqv d e)
theorem Ow {d e : PyData} {P : Bool → Prop} (h : HM d e = true) (p : P (PyData.eqv d e)) : eqD d e P := by
 unfold eqD
 split
 ·simp only [PyData.eqv] at p
  rw [show decide (_ = _) = (_ == _) from (Bool.beq_eq_decide_eq _ _).symm] at *
  exact p
 ·simp only [PyData.eqv] at p
  rw [show decide (_ = _) = (_ == _) from (Bool.beq_eq_decide_eq _ _).symm] at *
  exact p
 ·simp only [PyData.eqv] at p
  exact p
 ·exact ⟨h, p⟩
theorem Oq {d e : PyData} {P : Bool → Prop} (h : eqD d e P) : (d.canLay0 = true ∧ e.canLay0 = true ∧ min d.depth e.depth ≤ 64 ∧ P (PyData.eqv d e)) ∨ ∃ s t, d = .str s ∧ e = .str t ∧ P (decide (s = t)) := by
 unfold eqD at h
 split at h
 ·refine .inl ⟨by simp [PyData.canLay0], by simp [PyData.canLay0], by simp [PyData.depth], ?_⟩
  simp only [PyData.eqv]
  rw [Bool.beq_eq_decide_eq]
  exact h
 ·exact .inr ⟨_, _, rfl, rfl, h⟩
 ·refine .inl ⟨by simp [PyData.canLay0], by simp [PyData.canLay0], by simp [PyData.depth], ?_⟩
  simp only [PyData.eqv]
  exact h
 ·have h1 := h.1
  unfold HM at h1
  simp only [Bool.and_eq_true] at h1
  exact .inl ⟨h1.1.1, h1.1.2, Nat.le_of_ble_eq_true h1.2, h.2⟩
theorem Zcw {f : Value → Value → Sem Value} {r1 r2 : R2} (h1 : OpR X f r1) (h2 : OpR X f r2) : OpR X f (fun x y H Q => r1 x y H Q ∨ r2 x y H Q) :=
 fun pins s σ H x y v u Q I rx ry h => h.elim (h1 pins s σ H x y v u Q I rx ry) (h2 pins s σ H x y v u Q I rx ry)
def δEq : D2 := fun x y M Φ => onD x fun d => onD y fun e => eqD d e fun b => Φ (.dat (.bool b)) M
def δNe : D2 := fun x y M Φ => onD x fun d => onD y fun e => eqD d e fun b => Φ (.dat (.bool (!b))) M
theorem Q5 {k : Nat} (hr : Ji k X.A) : OpD X (compareOp .Eq) δEq :=
 ⟨_, Zcw (TR hr.units) Zeg, fun v u H x y M Φ Q r rv ru h k => by
  obtain ⟨d, e1, h⟩ := QK h
  obtain ⟨e, e2, h⟩ := QK h
  subst e1 e2
  rcases Oq h with ⟨c1, c2, hdp, q⟩ | ⟨s, t, rfl, rfl, q⟩
  ·exact .inl ⟨M, d, e, rv, ru, c1, c2, hdp, k.dat r Step.refl (Dt.bl _) q⟩
  ·have q' : Q (.bl (decide (s = t))) H := k.dat r Step.refl (Dt.bl _) q
   refine .inr ⟨by rw [rv.str, ru.str]; rfl, ?_⟩
   rw [rv.str, ru.str, YC, Bool.beq_eq_decide_eq]
   exact q'⟩
theorem ZaW {k : Nat} (hr : Ji k X.A) : OpD X (compareOp .NotEq) δNe :=
 ⟨_, Zcw (ZaV hr.units) Zc3, fun v u H x y M Φ Q r rv ru h k => by
  obtain ⟨d, e1, h⟩ := QK h
  obtain ⟨e, e2, h⟩ := QK h
  subst e1 e2
  rcases Oq h with ⟨c1, c2, hdp, q⟩ | ⟨s, t, rfl, rfl, q⟩
  ·exact .inl ⟨M, d, e, rv, ru, c1, c2, hdp, k.dat r Step.refl (Dt.bl _) q⟩
  ·have q' : Q (.bl (!decide (s = t))) H := k.dat r Step.refl (Dt.bl _) q
   refine .inr ⟨by rw [rv.str, ru.str]; rfl, ?_⟩
   rw [rv.str, ru.str, YC, Bool.beq_eq_decide_eq]
   exact q'⟩
def T9 : D2 := fun x y M Φ => onS x fun s => onS y fun t => Φ (.dat (.bool (!decide (s = t)))) M
theorem Zaw : OpD X (compareOp .NotEq) T9 :=
 ⟨_, Zc3, fun v u H x y M Φ Q r rv ru h k => by
  obtain ⟨s, e1, h⟩ := Jm h
  obtain ⟨t, e2, q⟩ := Jm h
  subst e1 e2
  have q' : Q (.bl (!decide (s = t))) H := k.dat r Step.refl (Dt.bl _) q
  refine ⟨by rw [rv.str, ru.str]; rfl, ?_⟩
  rw [rv.str, ru.str, YC, Bool.beq_eq_decide_eq]
  exact q'⟩
def Zd9 : D2 := fun x y M Φ => onS x fun s => onS y fun t => Φ (.dat (.bool (decide (s = t)))) M
abbrev DTO := DSt → Mp → (Option Int → Mp → Prop) → Prop
def DO (X : Cx) (e : Option Expr) (τ : DTO) : Prop := ∃ t, PO X e t ∧ ∀ σ H Δ M Φ (Q : Option Int → Hp → Prop), ZK X.K M H → QJ X.K M H σ Δ → τ Δ M Φ → (∀ o H' M', ZK X.K M' H' → Step M H M' H' → Φ o M' → Q o H') → t σ H Q
def E5 : DTO := fun _ M Φ => Φ none M
def TV (t : DTE) : DTO := fun Δ M Φ => t Δ M fun x M1 => onI x fun i => Φ (some i) M1
theorem Yp : DO X none E5 := ⟨_, RS, fun _ H _ M _ _ r _ h k => k none H M r Step.refl h⟩
theorem Yr {e : Expr} {te : DTE} (h : DE X e te) : DO X (some e) (TV te) := by
 obtain ⟨t, p, q⟩ := h
 refine ⟨_, RV p, fun σ H Δ M Φ Q r e h k => ?_⟩
 refine q σ H Δ M _ _ r e h fun v H1 x M1 r1 st rv hx => ?_
 replace hx := ZM hx
 obtain ⟨i, rfl, hx⟩ := hx
 exact ⟨i, rv.int, k _ H1 M1 r1 st hx⟩
noncomputable def cutD (xs : List PyData) (lo hi : Option Int) : List PyData := (xs.drop (HT.sIx xs.length 0 lo)).take (HT.sIx xs.length xs.length hi - HT.sIx xs.length 0 lo)
theorem Dts.cut {K : PySem.W.Frag} {M : Mp} {H : Hp} {vs : List V} {ds : List PyData} (h : Dts K M H vs ds) (lo hi : Option Int) : Dts K M H (N3 vs lo hi) (cutD ds lo hi) := by
 unfold N3 cutD
 rw [h.length]
 exact (h.drop _).take _
def ZfN (te : DTE) (tl th : DTO) : DTE := fun Δ M Φ => te Δ M fun x M1 => tl Δ M1 fun l M2 => th Δ M2 fun u M3 => onT x fun ds => ¬ (HT.sIx ds.length 0 l = 0 ∧ HT.sIx ds.length ds.length u = ds.length) ∧ Φ (.dat (.tuple (cutD ds l u))) M3
theorem FR {e : Expr} {te : DTE} {lo hi : Option Expr} {tl th : DTO} {p2 pos : Pos} (he : DE X e te) (hl : DO X lo tl) (hu : DO X hi th) : DE X (.Subscript e (.Slice lo hi none p2) pos) (ZfN te tl th) := by
 obtain ⟨t1, p1, q1⟩ := he
 obtain ⟨t2, p2, q2⟩ := hl
 obtain ⟨t3, p3, q3⟩ := hu
 refine ⟨_, BA T5 p1 p2 p3, fun σ H Δ M Φ Q r e h k => ?_⟩
 refine q1 σ H Δ M _ _ r e h fun v H1 x M1 r1 st rv hx => ?_
 refine q2 σ H1 Δ M1 _ _ r1 (e.step st) hx fun l H2 M2 r2 st2 hl => ?_
 refine q3 σ H2 Δ M2 _ _ r2 (e.step (st.trans st2)) hl fun u H3 M3 r3 st3 hu => ?_
 replace hu := G6 hu
 obtain ⟨ds, rfl, hw, hu⟩ := hu
 obtain ⟨a, xs, rfl, h1, h2⟩ := (rv.step (st2.trans st3)).tup
 refine ⟨a, xs, rfl, h1.sq, by rw [h2.length]; exact hw, fun p hp => ?_⟩
 exact k.dat (r3.new hp) ((st.trans (st2.trans st3)).trans (Step.new hp)) (Dt.Wf r3 hp (h2.cut l u)) hu
end
end DL
namespace DL
open PySem PySem.Spec PyProof.Rows L2
def ZbI : DTS := fun D Δ M => D.nx Δ M
def Zdh (t u : DTS) : DTS := fun D Δ M => t { D with nx := u D } Δ M
section
variable {X : Cx} {st : Stmt} {rest : List Stmt} {t u : DTS} {e : Expr} {te : DTE} {pos : Pos}
theorem ZI : DSs X [] ZbI := ⟨_, Rx, fun σ H Δ M D E r e h k => k.nx σ H Δ M r Step.refl e h⟩
theorem Ze (h1 : DS X st t) (h2 : DSs X rest u) : DSs X (st :: rest) (Zdh t u) := by
 obtain ⟨t1, p1, q1⟩ := h1
 obtain ⟨t2, p2, q2⟩ := h2
 refine ⟨_, LJ p1 p2, fun σ H Δ M D E r e h k => ?_⟩
 refine q1 σ H Δ M { D with nx := u D } { E with nx := t2 E } r e h ⟨fun σ' H' Δ' M' r' st' e' hn => ?_, k.rt, k.bk, k.ct⟩
 exact q2 σ' H' Δ' M' D E r' e' hn (k.step st')
theorem Zg (h1 : DS X st t) : DSs X [st] t := by
 obtain ⟨t1, p1, q1⟩ := h1
 exact ⟨_, RJ p1, q1⟩
def TZ : DTS := fun D Δ M => D.bk Δ M
def Zer : DTS := fun D Δ M => D.ct Δ M
def Zbp (te : DTE) : DTS := fun D Δ M => te Δ M fun _ M1 => D.nx Δ M1
theorem QL (he : DE X e te) (hs : autoParam (swapsWith e none pos.line X.env = pure false) zz3._auto_1) : DS X (.Expr e pos) (Zbp te) := by
 obtain ⟨t, p, q⟩ := he
 refine ⟨_, P7 p hs, fun σ H Δ M D E r e h k => ?_⟩
 exact q σ H Δ M _ _ r e h fun v H1 x M1 r1 st rv hx => k.nx σ H1 Δ M1 r1 st (e.step st) hx
def ZfB (te : DTE) : DTS := fun D Δ M => te Δ M D.rt
theorem Zs (he : DE X e te) : DS X (.Return (some e) pos) (ZfB te) := by
 obtain ⟨t, p, q⟩ := he
 exact ⟨_, ZbY p, fun σ H Δ M D E r e h k => q σ H Δ M _ _ r e h k.rt⟩
def Zek : DTS := fun D _ M => D.rt (.dat .none) M
def Ze9 (c : DTT) (t u : DTS) : DTS := fun D Δ M => c Δ M fun b M1 => if b = true then t D Δ M1 else u D Δ M1
theorem Qm {c : Expr} {a b : List Stmt} {tc : DTT} (hc : DT X c tc) (ha : DSs X a t) (hb : DSs X b u) : DS X (.If c a b pos) (Ze9 tc t u) := by
 obtain ⟨t0, p0, q0⟩ := hc
 obtain ⟨t1, p1, q1⟩ := ha
 obtain ⟨t2, p2, q2⟩ := hb
 refine ⟨_, ZeP p0 p1 p2, fun σ H Δ M D E r e h k => ?_⟩
 refine q0 σ H Δ M _ _ r e h fun c H1 M1 r1 st hc => ?_
 cases c with
 | true => rw [if_pos rfl]; exact q1 σ H1 Δ M1 D E r1 (e.step st) (by simpa using hc) (k.step st)
 | false => rw [if_neg Bool.false_ne_true]; exact q2 σ H1 Δ M1 D E r1 (e.step st) (by simpa using hc) (k.step st)
abbrev DTG := DV → DSt → Mp → (DSt → Mp → Prop) → Prop
abbrev HS := List DV → DSt → Mp → (DSt → Mp → Prop) → Prop
def DG (X : Cx) (tg : Expr) (τ : DTG) : Prop := ∃ t, PG X tg t ∧ ∀ v σ H x Δ M Φ (Q : L2.St → Hp → Prop), ZK X.K M H → QJ X.K M H σ Δ → Qd X.K M H v x → τ x Δ M Φ →
 (∀ σ' H' Δ' M', ZK X.K M' H' → Step M H M' H' → QJ X.K M' H' σ' Δ' → Φ Δ' M' → Q σ' H') → t v σ H Q
def DGs (X : Cx) (ts : List Expr) (τ : HS) : Prop := ∃ t, PGs X ts t ∧ ∀ vs σ H xs Δ M Φ (Q : L2.St → Hp → Prop), ZK X.K M H → QJ X.K M H σ Δ → Vn X.K M H vs xs → τ xs Δ M Φ →
 (∀ σ' H' Δ' M', ZK X.K M' H' → Step M H M' H' → QJ X.K M' H' σ' Δ' → Φ Δ' M' → Q σ' H') → t vs σ H Q
def BH (i : Nat) : DTG := fun x Δ M Φ => Φ (Δ.set i (some x)) M
theorem Zl (i : Nat) {x : Str} (hN : X.N.Nodup) (hi : autoParam (X.N[i]? = some x) zz3._auto_1) (hx : autoParam (Loc X.env.scope x) zz8._auto_1) (hf : autoParam (X.fn x = true ∨ X.env.scope.names.lookup x = some .local) zz0._auto_1) :
  DG X (.Name x pos) (BH i) :=
 ⟨_, D8 hN hi hx hf, fun v σ H x Δ M Φ Q r e rv h k => k _ H _ M r Step.refl (e.set rv) h⟩
def TX : HS := fun xs Δ M Φ => match xs with | [] => Φ Δ M | _ => False
def N1 (t : DTG) (u : HS) : HS := fun xs Δ M Φ => match xs with | x :: r => t x Δ M fun Δ' M' => u r Δ' M' Φ | [] => False
theorem Q0 : DGs X [] TX := ⟨_, Th, fun vs σ H xs Δ M Φ Q r e rv h k => by
 cases xs with
 | cons x r => exact h.elim
 | nil =>
 have h2 : Φ Δ M := h
 cases rv
 exact ⟨rfl, k σ H Δ M r Step.refl e h2⟩⟩
theorem ZG {es : List Expr} {t : DTG} {u : HS} (h1 : DG X e t) (h2 : DGs X es u)
  (hs : autoParam ((assignEach (e :: es) X.env).map (·.2) = assign e X.env :: (assignEach es X.env).map (·.2)) zz3._auto_1) : DGs X (e :: es) (N1 t u) := by
 obtain ⟨t1, p1, q1⟩ := h1
 obtain ⟨t2, p2, q2⟩ := h2
 refine ⟨_, MV p1 p2 hs, fun vs σ H xs Δ M Φ Q r e rv h k => ?_⟩
 obtain ⟨x, xr, e1, h⟩ : ∃ x xr, xs = x :: xr ∧ t x Δ M fun Δ' M' => u xr Δ' M' Φ := by
  cases xs with
  | nil => exact h.elim
  | cons x xr => exact ⟨x, xr, rfl, h⟩
 subst e1
 cases rv with
 | cons ra rr =>
  refine ⟨_, _, rfl, q1 _ σ H x Δ M _ _ r e ra h fun σ' H' Δ' M' r' st e' h' => ?_⟩
  exact q2 _ σ' H' xr Δ' M' Φ Q r' e' (Vn.step rr st) h' fun σ2 H2 Δ2 M2 r2 st2 e2 hΦ => k σ2 H2 Δ2 M2 r2 (st.trans st2) e2 hΦ
def OZ : Nat → List PyData → (List DV → Prop) → Prop
 | 0, [], P => P []
 | n + 1, d :: r, P => OZ n r fun xs => P (.dat d :: xs)
 | 0, _ :: _, _ => False
 | _ + 1, [], _ => False
theorem EF : ∀ {n : Nat} {ds : List PyData} {P : List DV → Prop}, OZ n ds P → ds.length = n ∧ P (ds.map DV.dat)
 | 0, [], _, h => ⟨rfl, h⟩
 | n + 1, d :: r, P, h => by
  obtain ⟨a, b⟩ := EF (n := n) (ds := r) h
  exact ⟨by rw [List.length_cons, a], b⟩
 | 0, _ :: _, _, h => h.elim
 | _ + 1, [], _, h => h.elim
def Zby (n : Nat) (t : HS) : DTG := fun x Δ M Φ => onT x fun ds => OZ n ds fun xs => t xs Δ M Φ
theorem Dts.T1 {K : PySem.W.Frag} {M : Mp} {H : Hp} : ∀ {vs : List V} {ds : List PyData}, Dts K M H vs ds → Vn K M H vs (ds.map DV.dat)
 | _, _, .nil => .nil
 | _, _, .cons h1 h2 => .cons h1 (Dts.T1 h2)
theorem JR {es : List Expr} {k : Nat} {t : HS} {n : Nat} (hc : X.calm = true) (h : DGs X es t) (hn : autoParam ((assignEach es X.env).length = n) zz3._auto_1) (hst : autoParam ((assignEach es X.env).findIdx? (·.1) = none) zz3._auto_1) : DG X (.Tuple es k pos) (Zby n t) := by
 obtain ⟨t1, p1, q1⟩ := h
 refine ⟨_, ZbM hc p1 hn hst, fun v σ H x Δ M Φ Q r e rv h k => ?_⟩
 replace h := G6 h
 obtain ⟨ds, rfl, h⟩ := h
 replace h := EF h
 obtain ⟨hl, h⟩ := h
 obtain ⟨a, xs, rfl, h1, h2⟩ := rv.tup
 exact ⟨a, xs, rfl, h1.sq, by rw [h2.length]; exact hl, q1 xs σ H _ Δ M Φ Q r e h2.T1 h k⟩
def Zbw (to ti : DTE) : DTG := fun x Δ M Φ => to Δ M fun o M1 => ti Δ M1 fun i M2 => onO o fun l => onI i fun k => onD x fun d => JC (M2 l) fun ds => ∃ j, ixN ds.length k = some j ∧ Φ Δ (Zv M2 l (.lst (ds.set j d)))
theorem BR {o i : Expr} {to ti : DTE} (ho : DE X o to) (hi : DE X i ti)
  (ha : ∀ v, assign (.Subscript o i pos) X.env v = (do
   let ov ← holding [v] (eval o X.env)
   let iv ← holding [v, ov] (eval i X.env)
   standAt pos
   holding [v, ov, iv] (setItem ov iv v)
   release [v, ov, iv] []) := by intro _; rfl) : DG X (.Subscript o i pos) (Zbw to ti) := by
 obtain ⟨t1, p1, q1⟩ := ho
 obtain ⟨t2, p2, q2⟩ := hi
 refine ⟨_, ZbB p1 p2 set_list ha, fun v σ H x Δ M Φ Q r e rv h k => ?_⟩
 refine Snd.bin q1 q2 r e h fun w1 w2 H2 o' i' M2 r2 st ro ri hs => ?_
 replace hs := ZU hs
 obtain ⟨l, rfl, hs⟩ := hs
 replace hs := ZM hs
 obtain ⟨kk, rfl, hs⟩ := hs
 replace hs := QK hs
 obtain ⟨d, rfl, hs⟩ := hs
 replace hs := Qx hs
 obtain ⟨ds, hm, j, hj, hΦ⟩ := hs
 obtain ⟨vs, g1, g2⟩ := r2.ls l ds hm
 cases (show w1 = .ref l from ro)
 have rv2 : Dt X.K M2 H2 v d := Dt.step st rv
 have st2 : Step M2 H2 (Zv M2 l (.lst (ds.set j d))) (upd H2 l (.lst (vs.set j v))) := Step.VL hm
 refine ⟨l, vs, kk, j, rfl, ri.int, g1, by rw [g2.length]; exact hj, ?_⟩
 exact k σ _ Δ _ (r2.VM st2 (g2.set rv2 j)) (st.trans st2) (e.step (st.trans st2)) hΦ
def Zdj (te : DTE) (g : DTG) : DTS := fun D Δ M => te Δ M fun x M1 => g x Δ M1 D.nx
theorem YH {tg : Expr} {g : DTG} (he : DE X e te) (hg : DG X tg g) (hs : autoParam (swapsWithSole [tg] e pos.line X.env = pure false) zz3._auto_1) (hw : autoParam (swappedStores [tg] e X.env = pure none) zz3._auto_1)
  (h1 : autoParam ((assignEach [tg] X.env).map (·.2) = [assign tg X.env]) zz3._auto_1) : DS X (.Assign [tg] e pos) (Zdj te g) := by
 obtain ⟨t1, p1, q1⟩ := he
 obtain ⟨t2, p2, q2⟩ := hg
 refine ⟨_, Zbh p1 p2 hs hw h1, fun σ H Δ M D E r e h k => ?_⟩
 refine q1 σ H Δ M _ _ r e h fun v H1 x M1 r1 st rv hx => ?_
 exact q2 v σ H1 x Δ M1 _ _ r1 (e.step st) rv hx fun σ' H' Δ' M' r' st' e' hn => k.nx σ' H' Δ' M' r' (st.trans st') e' hn
theorem Zk (i : Nat) {x : Str} {pos' : Pos} (hN : X.N.Nodup) (he : DE X e te) (hi : autoParam (X.N[i]? = some x) zz3._auto_1) (hx : autoParam (Loc X.env.scope x) zz8._auto_1) (hs : autoParam (swapsWith e (some (.Name x pos')) pos.line X.env = pure false) zz3._auto_1)
  (hf : autoParam (X.fn x = true ∨ X.env.scope.names.lookup x = some .local) zz0._auto_1) : DS X (.Assign [.Name x pos'] e pos) (Zdj te (BH i)) := by
 obtain ⟨t1, p1, q1⟩ := he
 refine ⟨_, ZaK hN hi hx p1 hs hf, fun σ H Δ M D E r e h k => ?_⟩
 refine q1 σ H Δ M _ _ r e h fun v H1 x M1 r1 st rv hx => ?_
 exact k.nx _ H1 _ M1 r1 st ((e.step st).set rv) hx
def Eo (to te : DTE) : DTE := fun Δ M Φ => to Δ M fun x M1 => onO x fun l => JC (M1 l) fun _ => te Δ M1 fun y M2 => onD y fun d => JC (M2 l) fun ds => ds.length < sizeLine ∧ Φ (.dat .none) (Zv M2 l (.lst (ds ++ [d])))
theorem QP {o : Expr} {to : DTE} {apos cpos : Pos} (ho : DE X o to) (he : DE X e te) (hbase : autoParam (attributeBase o "append" X.env (eval o X.env) = eval o X.env) zz3._auto_1)
  (hfew : ((backTo cpos (starEach [e] X.env)).all (fun x => !x.1) && (backToKw cpos (keywordEach [] X.env)).all (fun x => x.1.isSome)
   && decide ([e].length + ([] : List Keyword).length + (if ([] : List Keyword).isEmpty then 0 else 1) < 30)) = true := by rfl)
  (hline : autoParam ((apos.endLine == cpos.line) = true) zz3._auto_1) (hs : autoParam (starEach [e] X.env = (false, eval e X.env) :: starEach [] X.env) zz3._auto_1) (hplain : autoParam ((backTo cpos (starEach [] X.env)).any (·.1) = false) zz3._auto_1) :
  DE X (.Call (.Attribute o "append" apos) [e] [] cpos) (Eo to te) := by
 obtain ⟨t1, p1, q1⟩ := ho
 obtain ⟨t2, p2, q2⟩ := he
 refine ⟨_, Pb PySem.F.plainAttrs_list PySem.F.slot_list_append PySem.F.type_list_append EH p1 (JA p2 Xc hs) hbase hfew hline hs hplain, fun σ H Δ M Φ Q r e h k => ?_⟩
 refine q1 σ H Δ M _ _ r e h fun v H1 x M1 r1 st rv hx => ?_
 replace hx := ZU hx
 obtain ⟨l, rfl, hx⟩ := hx
 replace hx := Qx hx
 obtain ⟨oo, ho, hx⟩ := hx
 cases (show v = .ref l from rv)
 have ty : tyV X.K "list" (.ref l) H1 := by
  obtain ⟨vs, g1, _⟩ := r1.ls l oo ho
  exact .inl ⟨rfl, vs, SqL.of g1⟩
 refine ⟨ty, q2 σ H1 Δ M1 _ _ r1 (e.step st) hx fun w H2 y M2 r2 st2 rw2 hy => ?_⟩
 replace hy := QK hy
 obtain ⟨d, rfl, hy⟩ := hy
 replace hy := Qx hy
 obtain ⟨ds, hm, hz, hy⟩ := hy
 obtain ⟨vs, g1, g2⟩ := r2.ls l ds hm
 have st3 : Step M2 H2 (Zv M2 l (.lst (ds ++ [d]))) (upd H2 l (.lst (vs ++ [w]))) := Step.VL hm
 refine ⟨l, vs, w, rfl, rfl, g1, by rw [g2.length]; exact hz, ?_⟩
 exact k.dat (r2.VM st3 (g2.append (.cons rw2 .nil))) (st.trans (st2.trans st3)) Dt.non hy
end
section
variable {X : Cx} {tg iter : Expr} {body : List Stmt} {g : DTG} {tb : DTS} {pos : Pos}
def B9 (g : DTG) (tb : DTS) (D : Qe) (ds : List PyData) (Δ : DSt) (M : Mp) : Prop :=
 ∃ J : Nat → DSt → Mp → Prop, J 0 Δ M ∧ (∀ i d Δ M, ds[i]? = some d → J i Δ M → g (.dat d) Δ M fun Δ2 M2 => tb { D with nx := J (i + 1), ct := J (i + 1), bk := D.nx } Δ2 M2) ∧ ∀ Δ M, J ds.length Δ M → D.nx Δ M
def Zb3 (te : DTE) (g : DTG) (tb : DTS) : DTS := fun D Δ M => te Δ M fun x M1 => onL x fun ds => B9 g tb D ds Δ M1
def Zda (te : DTE) (g : DTG) (tb : DTS) : DTS := fun D Δ M => te Δ M fun x M1 => onT x fun ds => B9 g tb D ds Δ M1
theorem Vs {te : DTE} (he : DE X iter te) (hg : DG X tg g) (hb : DSs X body tb) (hp : PassesOwn (model X.prog X.w) X.A X.env X.xe) (hc : X.calm = true) (hs : autoParam (∀ x, foldedSetIterable iter X.env x = pure x) zz2._auto_1) :
  DS X (.For tg iter body [] pos) (Zb3 te g tb) := by
 obtain ⟨t1, p1, q1⟩ := he
 obtain ⟨t2, p2, q2⟩ := hg
 obtain ⟨t3, p3, q3⟩ := hb
 refine ⟨_, We hp hc (D6 p1) p2 p3 hs, fun σ H Δ M D E r e h k => ?_⟩
 refine q1 σ H Δ M _ _ r e h fun v H1 x M1 r1 st rv hx => ?_
 replace hx := Ex hx
 obtain ⟨ds, rfl, J, j0, jt, jd⟩ := hx
 obtain ⟨a, xs, rfl, h1, h2⟩ := rv.lst
 refine ⟨a, rfl, ⟨xs, h1.sq⟩, HY (xs := xs) (fun i σ H => ∃ Δ M, ZK X.K M H ∧ Step M1 H1 M H ∧ QJ X.K M H σ Δ ∧ J i Δ M) ⟨Δ, M1, r1, Step.refl, e.step st, j0⟩
  (fun i σ H _ ⟨Δ, M, _, st', _, _⟩ => (h1.step st').sq) (fun i y σ H hi ⟨Δ, M, r', st', e', j⟩ => ?_) (fun σ H ⟨Δ, M, r', st', e', j⟩ => ?_)⟩
 ·obtain ⟨d, hd, hy⟩ := h2.Pq hi
  refine q2 y σ H (.dat d) Δ M _ _ r' e' (Dt.step st' hy) (jt i d Δ M hd j) fun σ2 H2 Δ2 M2 r2 st2 e2 hb2 => ?_
  refine q3 σ2 H2 Δ2 M2 _ _ r2 e2 hb2 ?_
  have s12 : Step M1 H1 M2 H2 := st'.trans st2
  exact ⟨fun σ' H' Δ' M' a b c d => ⟨Δ', M', a, s12.trans b, c, d⟩, k.rt.step (st.trans s12), fun σ' H' Δ' M' a b c d => k.nx σ' H' Δ' M' a ((st.trans s12).trans b) c d,
   fun σ' H' Δ' M' a b c d => ⟨Δ', M', a, s12.trans b, c, d⟩⟩
 ·rw [h2.length] at j
  exact k.nx σ H Δ M r' (st.trans st') e' (jd Δ M j)
theorem Gg {te : DTE} (he : DE X iter te) (hg : DG X tg g) (hb : DSs X body tb) (hp : PassesOwn (model X.prog X.w) X.A X.env X.xe) (hc : X.calm = true) (hs : autoParam (∀ x, foldedSetIterable iter X.env x = pure x) zz2._auto_1) :
  DS X (.For tg iter body [] pos) (Zda te g tb) := by
 obtain ⟨t1, p1, q1⟩ := he
 obtain ⟨t2, p2, q2⟩ := hg
 obtain ⟨t3, p3, q3⟩ := hb
 refine ⟨_, We hp hc (O4 p1) p2 p3 hs, fun σ H Δ M D E r e h k => ?_⟩
 refine q1 σ H Δ M _ _ r e h fun v H1 x M1 r1 st rv hx => ?_
 replace hx := G6 hx
 obtain ⟨ds, rfl, J, j0, jt, jd⟩ := hx
 obtain ⟨a, xs, rfl, h1, h2⟩ := rv.tup
 refine ⟨a, rfl, ⟨xs, h1.sq⟩, SS (xs := xs) (fun i σ H => ∃ Δ M, ZK X.K M H ∧ Step M1 H1 M H ∧ QJ X.K M H σ Δ ∧ J i Δ M) ⟨Δ, M1, r1, Step.refl, e.step st, j0⟩
  (fun i σ H _ ⟨Δ, M, _, st', _, _⟩ => (h1.step st').sq) (fun i y σ H hi ⟨Δ, M, r', st', e', j⟩ => ?_) (fun σ H ⟨Δ, M, r', st', e', j⟩ => ?_)⟩
 ·obtain ⟨d, hd, hy⟩ := h2.Pq hi
  refine q2 y σ H (.dat d) Δ M _ _ r' e' (Dt.step st' hy) (jt i d Δ M hd j) fun σ2 H2 Δ2 M2 r2 st2 e2 hb2 => ?_
  refine q3 σ2 H2 Δ2 M2 _ _ r2 e2 hb2 ?_
  have s12 : Step M1 H1 M2 H2 := st'.trans st2
  exact ⟨fun σ' H' Δ' M' a b c d => ⟨Δ', M', a, s12.trans b, c, d⟩, k.rt.step (st.trans s12), fun σ' H' Δ' M' a b c d => k.nx σ' H' Δ' M' a ((st.trans s12).trans b) c d,
   fun σ' H' Δ' M' a b c d => ⟨Δ', M', a, s12.trans b, c, d⟩⟩
 ·rw [h2.length] at j
  exact k.nx σ H Δ M r' (st.trans st') e' (jd Δ M j)
def WS (g : DTG) (tb : DTS) (D : Qe) (lo : Int) (n : Nat) (Δ : DSt) (M : Mp) : Prop :=
 ∃ J : Nat → DSt → Mp → Prop, J 0 Δ M ∧ (∀ i Δ M, i < n → J i Δ M → g (.dat (.int (lo + i))) Δ M fun Δ2 M2 => tb { D with nx := J (i + 1), ct := J (i + 1), bk := D.nx } Δ2 M2) ∧ ∀ Δ M, J n Δ M → D.nx Δ M
theorem O6 {g' : TG} {tb' : TS} {lo : Int} {n : Nat} (q2 : ∀ v σ H x Δ M Φ (Q : L2.St → Hp → Prop), ZK X.K M H → QJ X.K M H σ Δ → Qd X.K M H v x → g x Δ M Φ →
  (∀ σ' H' Δ' M', ZK X.K M' H' → Step M H M' H' → QJ X.K M' H' σ' Δ' → Φ Δ' M' → Q σ' H') → g' v σ H Q)
  (q3 : ∀ σ H Δ M D E, ZK X.K M H → QJ X.K M H σ Δ → tb D Δ M → Yw X.K M H D E → tb' E σ H) {D : Qe} {E : Ends} {σ : L2.St} {H : Hp} {Δ : DSt} {M : Mp} (r : ZK X.K M H) (e : QJ X.K M H σ Δ) (h : WS g tb D lo n Δ M) (k : Yw X.K M H D E) :
  ∃ W : Nat → Nat → L2.St → Hp → Prop, (∃ m, W 0 m σ H) ∧ ∀ i m σ H, W i m σ H →
   ((Itr lo n).stop i H ∧ E.nx σ H) ∨ ((Itr lo n).go i H ∧ ∃ N : L2.St → Hp → Prop, (∀ σ' H', N σ' H' → ∃ m', m' < m ∧ W (i + 1) m' σ' H') ∧ ∀ x H', (Itr lo n).yld i H x H' → g' x σ H' fun σ2 H2 => tb' { E with nx := N, ct := N, bk := E.nx } σ2 H2) := by
 obtain ⟨J, j0, jt, jd⟩ := h
 refine Hn (fun i σ' H' => ∃ Δ' M', ZK X.K M' H' ∧ Step M H M' H' ∧ QJ X.K M' H' σ' Δ' ∧ J i Δ' M') ⟨Δ, M, r, Step.refl, e, j0⟩ (fun i σ1 H1 hi ⟨Δ1, M1, r', st', e', j⟩ => ?_) (fun σ1 H1 ⟨Δ1, M1, r', st', e', j⟩ => ?_)
 ·refine q2 _ σ1 H1 (.dat (.int (lo + i))) Δ1 M1 _ _ r' e' (Dt.int _) (jt i Δ1 M1 hi j) fun σ2 H2 Δ2 M2 r2 st2 e2 hb2 => ?_
  refine q3 σ2 H2 Δ2 M2 _ _ r2 e2 hb2 ?_
  have s12 : Step M H M2 H2 := st'.trans st2
  exact ⟨fun σ' H' Δ' M' a b c d => ⟨Δ', M', a, s12.trans b, c, d⟩, k.rt.step s12, fun σ' H' Δ' M' a b c d => k.nx σ' H' Δ' M' a (s12.trans b) c d,
   fun σ' H' Δ' M' a b c d => ⟨Δ', M', a, s12.trans b, c, d⟩⟩
 ·exact k.nx σ1 H1 Δ1 M1 r' st' e' (jd Δ1 M1 j)
def InR (j : Int) : Prop := -(2 ^ 62) ≤ j ∧ j < 2 ^ 62
def ON (ta : DTA) (g : DTG) (tb : DTS) : DTS := fun D Δ M => ta Δ M fun xs M1 => on1 xs fun x => onI x fun j => InR j ∧ WS g tb D 0 j.toNat Δ M1
theorem Je {a : Expr} {ta : DTA} {p p2 : Pos} (hg0 : Gl X "range") (hm : X.mg "range" = none) (ha : DA X [a] ta) (hg : DG X tg g) (hb : DSs X body tb) (hp : PassesOwn (model X.prog X.w) X.A X.env X.xe) (hc : X.calm = true)
  (hs : autoParam (starEach [a] X.env = [(false, eval a X.env)]) zz3._auto_1) (hs2 : autoParam (∀ x, foldedSetIterable (.Call (.Name "range" p) [a] [] p2) X.env x = pure x) zz2._auto_1) : DS X (.For tg (.Call (.Name "range" p) [a] [] p2) body [] pos) (ON ta g tb) := by
 obtain ⟨t1, p1, q1⟩ := ha
 obtain ⟨t2, p2, q2⟩ := hg
 obtain ⟨t3, p3, q3⟩ := hb
 refine ⟨_, We hp hc (Wu hg0 hm p1 hs) p2 p3 hs2, fun σ H Δ M D E r e h k => ?_⟩
 refine q1 σ H Δ M _ _ r e h fun vs H1 xs M1 r1 st rv hx => ?_
 replace hx := ZS hx
 obtain ⟨x, rfl, hx⟩ := hx
 replace hx := ZM hx
 obtain ⟨j, rfl, ⟨h1, h2⟩, hx⟩ := hx
 obtain ⟨v, rfl, hv⟩ := Paired.one rv
 exact ⟨j, by rw [Qd.int hv], h1, h2, O6 q2 q3 r1 (e.step st) hx (k.step st)⟩
def Oj (ta : DTA) (g : DTG) (tb : DTS) : DTS := fun D Δ M => ta Δ M fun xs M1 => on2 xs fun x y => onI x fun i => onI y fun j => (InR i ∧ InR j) ∧ WS g tb D i (j - i).toNat Δ M1
end
abbrev DSp := List DV → Mp → DK → Prop
def lift (K : PySem.W.Frag) (S : DSp) : Sp := fun vs H Q _ => ∃ xs M Φ, ZK K M H ∧ Vn K M H vs xs ∧ S xs M Φ ∧ Rch K M H Φ Q
def Zbb (S : DSp) (t : DTA) : DTE := fun Δ M Φ => t Δ M fun xs M1 => S xs M1 Φ
section
variable {X : Cx} {CX : CXT} {k : Nat} {f : Addr} {fd : FuncData} {ps : List Str} {S : DSp} {E : XK} {x : Str} {p pos : Pos} {e : Expr} {es : List Expr} {t : DTA}
theorem Zi (F : ZT X.prog X.w X.K X.mg X.base CX k f fd ps (lift X.K S)) (hr : Ji k X.A) (hg : Gl X x) (hm : X.mg x = some (.ref f)) (hk : PySem.W.keepIn X.K (.ref f) = true) (hb : Binds X.K fd ps []) (hx : Passes CX X E)
  (ha : DA X (e :: es) t) (hdb : autoParam ((x == ("__debug__" : Str)) = false) zz1._auto_1) (he : autoParam (starEach (e :: es) X.env = (false, eval e X.env) :: starEach es X.env) zz3._auto_1) (hpl : autoParam ((backTo pos (starEach es X.env)).any (·.1) = false) zz3._auto_1) :
  DE X (.Call (.Name x p) (e :: es) [] pos) (Zbb S t) := by
 obtain ⟨t1, p1, q1⟩ := ha
 refine ⟨_, Te F hr hg hm hk hb .nil hx p1 hdb he hpl, fun σ H Δ M Φ Q r e h k => ?_⟩
 refine q1 σ H Δ M _ _ r e h fun vs H1 xs M1 r1 st rv hx => ?_
 show lift X.K S (vs ++ []) H1 Q E
 rw [List.append_nil]
 exact ⟨xs, M1, Φ, r1, rv, hx, k.step st⟩
end
section
variable {P : Program} {w : World} {K : PySem.W.Frag} {mg : Str → Option Value} {base : Heap}
theorem okD {x qual : Str} {st : Stmt} {f : Addr} {fd : FuncData} {N ps : List Str} {k : Nat} {S : DSp} (F : Fun K x qual st f fd) (Sc : Zt N ps (Zf st)) (len : ∀ xs M Φ, S xs M Φ → xs.length = ps.length)
  (hbody : ∀ (cdv : Value) (A : Around) (outer : List Env) (s : Shared) (H : Hp) (E : XK), Ji k (A.deeper (envOfC qual (Zf st) s.heap.objs.size f cdv)) →
   ∃ τ, DSs (Ob CX0 P w K mg base N qual (Zf st) f cdv A outer s H E).nox (Zq st) τ ∧ ∀ xs M Φ, S xs M Φ → τ { nx := fun _ M' => Φ (.dat .none) M', rt := Φ } (VI N xs) M) : ZT P w K mg base CX0 (k + 1) f fd ps (lift K S) := by
 refine F.ok Sc (fun vs H Q E h => ?_) fun cdv A outer s H vs Q E hr h => ?_
 ·obtain ⟨xs, M, Φ, _, rv, hs, _⟩ := h
  rw [Paired.length rv]
  exact len xs M Φ hs
 ·obtain ⟨xs, M, Φ, r, rv, hs, kk⟩ := h
  obtain ⟨τ, ⟨t, p, q⟩, hτ⟩ := hbody cdv A outer s H E hr
  refine ⟨t, p, q (start N vs) H (VI N xs) M _ _ r (QJ.start rv) (hτ xs M Φ hs) ⟨fun σ' H' Δ' M' r' st' e' hn => ?_, kk, fun _ _ _ _ _ _ _ h => h.elim, fun _ _ _ _ _ _ _ h => h.elim⟩⟩
  exact kk.dat r' st' Dt.non hn
end
end DL
namespace DL
open PySem PySem.Spec PyProof.Rows L2
section
variable {X : Cx} {k v : Expr} {pos : Pos}
def At (X : Cx) (e : Expr) (τ : DTE) : Prop := ∃ t, PE X e t ∧ ∀ σ H Δ M Φ, QJ X.K M H σ Δ → τ Δ M Φ → ∃ v x, Qd X.K M H v x ∧ Φ x M ∧ ∀ (H' : Hp) (Q : VK), Q v H' → t σ H' Q
def ZcK : DTE := fun _ M Φ => Φ (.dat (.dict [])) M
theorem Zgd {K : PySem.W.Frag} {M : Mp} {H : Hp} {v : V} {k : Key} (h : Dt K M H v (kD k)) : v = kV k := by
 cases k with
 | inl i => cases (show Dt K M H v (.int i) from h); rfl
 | inr x => cases (show Dt K M H v (.str x) from h); rfl
def Vh (x : DV) (P : Key → Prop) : Prop := match x with | .dat (.int i) => P (.inl i) | .dat (.str s) => P (.inr s) | _ => False
theorem L5 {x : DV} {P : Key → Prop} (h : Vh x P) : ∃ k, x = .dat (kD k) ∧ P k := by
 unfold Vh at h
 split at h
 ·exact ⟨_, rfl, h⟩
 ·exact ⟨_, rfl, h⟩
 ·exact h.elim
noncomputable def Li : List PyData → Option (List Key)
 | [] => some []
 | .int i :: r => (Li r).map (.inl i :: ·)
 | .str s :: r => (Li r).map (.inr s :: ·)
 | _ :: _ => none
def Zeq (ds : List PyData) (P : List Key → Prop) : Prop := match Li ds with | some ks => P ks | none => False
def ZbC (tk tv : DTE) : DTE := fun Δ M Φ => tk Δ M fun x M1 => tv Δ M1 fun y M2 => Vh x fun k => onD y fun d => Φ (.dat (.dict [(kD k, d)])) M2
def ZaL (tk tv tk' tv' : DTE) : DTE := fun Δ M Φ => tk Δ M fun x M1 => tv Δ M1 fun y M2 => tk' Δ M2 fun x' M3 => tv' Δ M3 fun y' M4 => Vh x fun k => onD y fun d => Vh x' fun k' => onD y' fun d' => k ≠ k' ∧ Φ (.dat (.dict [(kD k, d), (kD k', d')])) M4
def Zhz (a b : Addr) (v : V) (h : Heap) : Prop := ∃ o es n u, h.get? a = some o ∧ o.cls = .type "dict" ∧ o.data = .dict es n ∧ es.toList.map (·.key) = [.ref b] ∧ es.toList.map (·.val) = [u] ∧ RelV v u
def RU (tk tv : DTE) : DTE := fun Δ M Φ => tk Δ M fun x M1 => tv Δ M1 fun y M2 => onT x fun ds => Zeq ds fun ks => onD y fun d => Φ (.dat (.dict [(.tuple (ks.map kD), d)])) M2
theorem SqT.new {K : PySem.W.Frag} {H : Hp} {a p : Addr} {xs : List V} {o : HO} (h : SqT K H a xs) (hp : H p = none) : SqT K (upd H p o) a xs := by
 rcases h with (h | ⟨ob, h⟩) | h
 ·exact .inl (.inl (by rw [ZC (Zr h hp)]; exact h))
 ·exact .inl (.inr ⟨ob, by rw [ZC (Zr h hp)]; exact h⟩)
 ·exact .inr h
end
end DL
namespace DL
open PySem PySem.Spec PyProof.Rows L2
mutual
noncomputable def cost : PyData → Nat
 | .none => 4
 | .bool _ => 5
 | .int _ => 1921
 | .str x => (reprText x).length
 | .list xs => Jg xs + 2
 | .tuple xs => Jg xs + 3
 | .dict kvs => W2 kvs + 2
noncomputable def Jg : List PyData → Nat
 | [] => 0
 | x :: xs => cost x + 2 + Jg xs
noncomputable def W2 : List (PyData × PyData) → Nat
 | [] => 0
 | (k, v) :: r => cost k + 2 + cost v + 2 + W2 r
end
theorem Ym : ∀ (ts : List Str) (k : Nat) (acc : Str), (textFrom k acc ts).length ≤ acc.length + piled ts
 | [], k, acc => Nat.le_add_right _ _
 | t :: r, k, acc => by
  have h := Ym r (k + 1) (acc ++ (if k > 0 then ", " else "" : String) ++ t)
  have e : (acc ++ (if k > 0 then ", " else "" : String) ++ t).length = acc.length + (if k > 0 then 2 else 0) + t.length := by
   rw [strLen_append, strLen_append]
   split <;> rfl
  have d1 : (if k > 0 then 2 else 0 : Nat) ≤ 2 := by split <;> omega
  rw [e] at h
  rw [piled_cons]
  show (textFrom (k + 1) _ r).length ≤ _
  omega
theorem En (ts : List Str) : (Str.join ", " ts).length ≤ piled ts := by
 by_cases h : ts = []
 ·subst h; exact Nat.le_of_eq rfl
 ·have := join_length_add ts h
  omega
mutual
theorem JK : ∀ d : PyData, d.showable = true → d.shown.length ≤ cost d
 | .none, _ => by simp only [PyData.shown, cost]; exact Nat.le_of_eq rfl
 | .bool b, _ => by
  simp only [PyData.shown, cost]
  cases b
  ·exact Nat.le_of_eq rfl
  ·exact (by decide : 4 ≤ 5)
 | .int i, h => by
  simp only [PyData.shown, cost]
  exact int_text_len_1921 (by simpa [PyData.showable] using h)
 | .str x, _ => by simp only [PyData.shown, cost]; exact Nat.le_refl _
 | .list xs, h => by
  have h1 := Q9 xs (by simpa [PyData.showable] using h)
  have h2 := Ym (PyData.shownAll xs) 0 "["
  have e1 : ((("[" : String) : Str)).length = 1 := rfl
  have e2 : ((("]" : String) : Str)).length = 1 := rfl
  simp only [PyData.shown, cost]
  unfold listText
  rw [strLen_append, e2]
  rw [e1] at h2
  omega
 | .tuple xs, h => by
  have h1 := Q9 xs (by simpa [PyData.showable] using h)
  have h2 := En (PyData.shownAll xs)
  have e1 : ((("(" : String) : Str)).length = 1 := rfl
  have e3 : (((if (PyData.shownAll xs).length == 1 then ",)" else ")" : String) : Str)).length ≤ 2 := by split <;> decide
  simp only [PyData.shown, cost]
  unfold tupleText
  rw [strLen_append, strLen_append, e1]
  omega
 | .dict kvs, h => by
  have h1 := VQ kvs (by simpa [PyData.showable] using h)
  have h2 := En (PyData.shownKv kvs)
  have e : (dictText (PyData.shownKv kvs)).length = 1 + (Str.join ", " (PyData.shownKv kvs)).length + 1 := by
   unfold dictText
   rw [strLen_append, strLen_append]; rfl
  simp only [PyData.shown, cost]
  omega
theorem Q9 : ∀ xs : List PyData, PyData.showableAll xs = true → piled (PyData.shownAll xs) ≤ Jg xs
 | [], _ => by simp only [PyData.shownAll, Jg]; exact Nat.le_of_eq rfl
 | x :: xs, h => by
  have h' : x.showable = true ∧ PyData.showableAll xs = true := by simpa [PyData.showableAll] using h
  have h1 := JK x h'.1
  have h2 := Q9 xs h'.2
  simp only [PyData.shownAll, Jg]
  rw [piled_cons]
  omega
theorem VQ : ∀ kvs : List (PyData × PyData), PyData.showableKv kvs = true → piled (PyData.shownKv kvs) ≤ W2 kvs
 | [], _ => by simp only [PyData.shownKv, W2]; exact Nat.le_of_eq rfl
 | (k, v) :: r, h => by
  have h' : (k.showable = true ∧ v.showable = true) ∧ PyData.showableKv r = true := by simpa [PyData.showableKv] using h
  have h1 := JK k h'.1.1
  have h2 := JK v h'.1.2
  have h3 := VQ r h'.2
  have e : ((k.shown ++ ": " ++ v.shown : Str)).length = k.shown.length + 2 + v.shown.length := by rw [strLen_append, strLen_append]; rfl
  simp only [PyData.shownKv, W2]
  rw [piled_cons, e]
  omega
end
theorem Shw.of {d : PyData} (s : d.showable = true) (m : (d.hasDict && Qa d) = false) (dp : d.depth ≤ 64) (z : cost d ≤ 1000000) : Shw d :=
 ⟨s, m, dp, Nat.le_trans (JK d s) (Nat.le_trans z (by rw [sizeLine_eq]; decide))⟩
structure Own (K : PySem.W.Frag) (mg : Str → Option Value) (x : Str) (st : Stmt) (ps : List Str) (f : Addr) (fd : FuncData) : Prop where
 F : Fun K x x st f fd
 m : mg x = some (.ref f)
 b : Binds K fd ps []
def Dw : DSp := fun xs M Φ => ∃ ns : List Int, xs = [.dat (.list (ns.map PyData.int))] ∧ ns.length ≤ 63 ∧ ∀ M', Φ (.dat (.bool true)) M'
theorem FU {K : PySem.W.Frag} {H : Hp} {a : Addr} {ns : List Int} (hl : ns.length ≤ 63) (_ : Zdp H) (hS : SqL K H a (ns.map V.int)) : lift K Dw [.ref a] H (fun v _ => v = .bl true) fun _ _ _ => False := by
 refine ⟨[.dat (.list (ns.map PyData.int))], fun _ => none, fun x _ => x = .dat (.bool true), (show ZK K (fun _ => none) H from ⟨fun b o e => (by cases e)⟩), Paired.cons (Dt.lst ?_ (Dts.ints ns)) Paired.nil, ⟨ns, rfl, hl, fun _ => rfl⟩, fun v H' x M' _ _ rv hx => ?_⟩
 ·rcases hS with h | h
  ·exact .inl ⟨rfl, h⟩
  ·exact .inr h
 ·subst hx
  exact rv.bool
end DL
namespace DL
open PySem PySem.Spec PyProof.Rows L2
theorem C0 {α : Type} {l : List α} {i : Int} (h0 : 0 ≤ i) (h1 : i < l.length) : ∃ d, atI l i = some d ∧ d ∈ l := by
 have hl : i.toNat < l.length := by omega
 refine ⟨l[i.toNat], ?_, List.getElem_mem hl⟩
 have q : atI l ((i.toNat : Nat) : Int) = some l[i.toNat] := J4 (by simp [hl])
 rw [show ((i.toNat : Nat) : Int) = i by omega] at q
 exact q
theorem Zcx : ixN 3 0 = some 0 := rfl
theorem ZcS : ixN 3 1 = some 1 := rfl
theorem Zco : ixN 3 2 = some 2 := rfl
theorem Ho {ns : List Int} {j : Int} (h0 : 0 ≤ j) (h1 : j < ns.length) : ∃ c : Int, atI (ns.map PyData.int) j = some (.int c) := by
 obtain ⟨d, e, hm⟩ := C0 (l := ns.map PyData.int) h0 (by rw [List.length_map]; exact h1)
 obtain ⟨c, _, rfl⟩ := List.mem_map.mp hm
 exact ⟨c, e⟩
theorem W9 (x : Int) {m : Int} (h : 0 < m) : 0 ≤ x % m ∧ x % m < m := ⟨Int.emod_nonneg _ (by omega), Int.emod_lt_of_pos _ h⟩
def sp1 (f : PyData → Bool) : DSp := fun xs M Φ => ∃ d, xs = [.dat d] ∧ Φ (.dat (.bool (f d))) M
theorem PU (k : Int) (h : 0 ≤ k ∧ k ≤ 1000000) : Zd3 10 k := ⟨h.1, h.2, by decide⟩
theorem Q3 {M : Mp} {a : Addr} {o : OO} (h : M a = none) : J5 (Zv M a o) a = M := by
 funext b
 unfold J5 Zv
 split
 ·rename_i e; rw [e, h]
 ·rfl
theorem Zz {p : Prop} [Decidable p] {A B : Prop} (h1 : p → A) (h2 : ¬ p → B) : if decide p = true then A else B := by
 by_cases h : p
 ·rw [decide_eq_true h, if_pos rfl]; exact h1 h
 ·rw [decide_eq_false h, if_neg Bool.false_ne_true]; exact h2 h
end DL
namespace DL
open PySem PySem.Spec PyProof.Rows L2
noncomputable def CH (env : Env) : List (Str × NameKind) → List (Str × Addr) → List (Str × Addr)
 | [], cs => cs
 | (n, k) :: r, cs => CH env r (if (k == NameKind.free) = true then (n, (env.cells.lookup n).getD 0) :: cs else cs)
theorem Xg {env : Env} (f : Str × NameKind → List (Str × Addr) → Sem (ForInStep (List (Str × Addr)))) : ∀ (l : List (Str × NameKind)) (cs : List (Str × Addr)),
  (∀ y ∈ l, ∀ cs, f y cs = pure (.yield (if (y.2 == NameKind.free) = true then (y.1, (env.cells.lookup y.1).getD 0) :: cs else cs))) → forIn l cs f = pure (CH env l cs)
 | [], cs, _ => by rw [List.forIn_nil]; rfl
 | (n, k) :: r, cs, h => by
  rw [List.forIn_cons, h _ List.mem_cons_self, pure_bind]
  exact Xg f r _ fun y hy => h y (List.mem_cons_of_mem _ hy)
theorem Js {scope : Scope} {env : Env} (h : ∀ y ∈ scope.names, y.2 = .free → ∃ c, env.cells.lookup y.1 = some c) : closureFor scope env = pure (CH env scope.names []) := by
 simp only [closureFor]
 rw [Xg (env := env) _ scope.names [] (fun y hy cs => by
  obtain ⟨n, k⟩ := y
  by_cases hk : k = .free
  ·subst hk
   obtain ⟨c, e⟩ := h _ hy rfl
   have e' : env.cells.lookup n = some c := e
   simp only [beq_self_eq_true, if_true, cellOf, e', Option.getD_some, pure_bind]
  ·have : (k == NameKind.free) = false := by simpa using hk
   simp only [this, Bool.false_eq_true, if_false])]
 rfl
theorem G8 {env : Env} : ∀ {l : List (Str × NameKind)} {cs : List (Str × Addr)} {x : Str} {c : Addr}, (x, c) ∈ CH env l cs → (x, c) ∈ cs ∨ ((x, NameKind.free) ∈ l ∧ c = (env.cells.lookup x).getD 0)
 | [], _, _, _, h => .inl h
 | (n, k) :: r, cs, x, c, h => by
  rcases G8 (l := r) h with h | ⟨h1, h2⟩
  ·by_cases hk : k = .free
   ·subst hk
    rw [if_pos (by simp)] at h
    rcases List.mem_cons.mp h with h | h
    ·cases h
     exact .inr ⟨List.mem_cons_self, rfl⟩
    ·exact .inl h
   ·have : (k == NameKind.free) = false := by simpa using hk
    rw [if_neg (by rw [this]; exact Bool.false_ne_true)] at h
    exact .inl h
  ·exact .inr ⟨List.mem_cons_of_mem _ h1, h2⟩
theorem BF {env : Env} : ∀ {l : List (Str × NameKind)} {cs : List (Str × Addr)} {x : Str}, ((x, NameKind.free) ∈ l ∨ ∃ c, (x, c) ∈ cs) → ∃ c, (x, c) ∈ CH env l cs
 | [], _, _, h => h.elim (fun z => nomatch z) id
 | (n, k) :: r, cs, x, h => by
  refine BF (l := r) ?_
  rcases h with h | ⟨c, h⟩
  ·rcases List.mem_cons.mp h with h | h
   ·cases h
    exact .inr ⟨_, by rw [if_pos (by simp)]; exact List.mem_cons_self⟩
   ·exact .inl h
  ·refine .inr ⟨c, ?_⟩
   split
   ·exact List.mem_cons_of_mem _ h
   ·exact h
theorem Yx {β : Type} : ∀ {l : List (Str × β)} {x : Str} {c : β}, (x, c) ∈ l → ∃ c', l.lookup x = some c'
 | [], _, _, h => nomatch h
 | (n, d) :: r, x, c, h => by
  rw [List.lookup_cons]
  cases e : x == n with
  | true => exact ⟨d, rfl⟩
  | false =>
   rcases List.mem_cons.mp h with h | h
   ·cases h
    simp at e
   ·exact Yx h
theorem Z7 {env : Env} {names : List (Str × NameKind)} (hf : ∀ y ∈ names, y.2 = .free → ∃ c, env.cells.lookup y.1 = some c) {x : Str} {c : Addr} (h : (CH env names []).lookup x = some c) :
  env.cells.lookup x = some c ∧ (x, NameKind.free) ∈ names := by
 rcases G8 (PySem.mem_of_lookup h) with h | ⟨h1, h2⟩
 ·exact nomatch h
 ·obtain ⟨c', e⟩ := hf _ h1 rfl
  have e' : env.cells.lookup x = some c' := e
  rw [e', Option.getD_some] at h2
  subst h2
  exact ⟨e', h1⟩
theorem BP {env : Env} {names : List (Str × NameKind)} (hf : ∀ y ∈ names, y.2 = .free → ∃ c, env.cells.lookup y.1 = some c) {x : Str} (h : (x, NameKind.free) ∈ names) : ∃ c, (CH env names []).lookup x = some c ∧ env.cells.lookup x = some c := by
 obtain ⟨c, hm⟩ := BF (env := env) (cs := []) (.inl h)
 obtain ⟨c', e⟩ := Yx hm
 exact ⟨c', e, (Z7 hf e).1⟩
noncomputable def ZA (X : Cx) (scope : Scope) (C : Addr) (N : List Str) (ex : List Addr) (s : Shared) (H : Hp) : Cx :=
 { X with N := N, s₀ := s, H₀ := H, env := compEnvC scope (CH X.env scope.names []) C X.env, outer := X.stack, ex := ex, fn := fun _ => false, pn := [], xe := fun _ _ => False }
noncomputable def Qq (ix : List (Option Nat)) (σ : L2.St) : L2.St := ix.map fun o => o.bind fun i => (σ[i]?).join
noncomputable def W5 (ix : List (Option Nat)) (Δ : DSt) : DSt := ix.map fun o => o.bind fun i => (Δ[i]?).join
structure JL (X : Cx) (scope : Scope) (N : List Str) (ix : List (Option Nat)) : Prop where
 kind : scope.kind = .function
 cellF : ∀ y ∈ scope.names, y.2 ≠ .cell
 names : ∀ y ∈ scope.names, y.2 = .local → scope.names.lookup y.1 = some .local
 free : ∀ y ∈ scope.names, y.2 = .free → X.env.kindOf y.1 = some .cell
 len : N.length = ix.length
 cap : ∀ (j : Nat) (x : Str) (i : Nat), N[j]? = some x → ix[j]? = some (some i) → X.N[i]? = some x ∧ (x, NameKind.free) ∈ scope.names ∧ (relabel scope X.env).names.lookup x = some .cell
theorem Es {ix : List (Option Nat)} {σ : L2.St} {j : Nat} {v : V} (h : (Qq ix σ)[j]? = some (some v)) : ∃ i, ix[j]? = some (some i) ∧ σ[i]? = some (some v) := by
 unfold Qq at h
 rw [List.getElem?_map] at h
 cases e : ix[j]? with
 | none => rw [e] at h; cases h
 | some o =>
  rw [e] at h
  cases o with
  | none => simp at h
  | some i =>
   refine ⟨i, rfl, ?_⟩
   have h' : (σ[i]?).join = some v := by simpa using h
   cases q : σ[i]? with
   | none => rw [q] at h'; cases h'
   | some o' => rw [q] at h'; exact congrArg some h'
theorem QJ.cap {K : PySem.W.Frag} {M : Mp} {H : Hp} {σ : L2.St} {Δ : DSt} (h : QJ K M H σ Δ) (ix : List (Option Nat)) : QJ K M H (Qq ix σ) (W5 ix Δ) := by
 refine ⟨by unfold Qq W5; rw [List.length_map, List.length_map], fun j x e => ?_⟩
 unfold W5 at e
 rw [List.getElem?_map] at e
 cases q : ix[j]? with
 | none => rw [q] at e; cases e
 | some o =>
  rw [q] at e
  cases o with
  | none => simp at e
  | some i =>
   have e' : (Δ[i]?).join = some x := by simpa using e
   have e2 : Δ[i]? = some (some x) := by
    cases q2 : Δ[i]? with
    | none => rw [q2] at e'; cases e'
    | some o' => rw [q2] at e'; exact congrArg some e'
   obtain ⟨v, hv, rv⟩ := h.at' i x e2
   refine ⟨v, ?_, rv⟩
   unfold Qq
   rw [List.getElem?_map, q]
   simp [hv]
section
variable {X : Cx} {pins : List (Addr × Obj)} {σ : L2.St} {H2 : Hp} {s2 : Shared} {scope : Scope} {N : List Str} {ix : List (Option Nat)} {C : Addr} {fp : List Addr}
theorem Ov (ok : JL X scope N ix) (I2 : Inv X pins σ H2 s2) : ∀ y ∈ scope.names, y.2 = .free → ∃ c, X.env.cells.lookup y.1 = some c := fun y hy hk => I2.ok.has y.1 (.inl (ok.free y hy hk))
theorem Xd (ok : JL X scope N ix) (I2 : Inv X pins σ H2 s2) (f2 : ∀ b ∈ fp, Us X pins H2 b) (ex : ∀ b ∈ fp, ∃ o, s2.heap.get? b = some o) (hC : s2.heap.objs.size ≤ C) : (ZA X scope C N fp s2 H2).Ok := by
 have hf := Ov ok I2
 refine ⟨I2.ok.mod, ok.kind, I2.ok.glob, I2.ok.blt, hC, fun x y c h1 h2 => I2.ok.inj x y c (Z7 hf h1).1 (Z7 hf h2).1, fun x hx => ?_, fun x c h => absurd h Bool.false_ne_true, I2.ok.hd, I2.ok.frames, .inl rfl, fun b hb => ?_, fun b o e => I2.bs b o e, Nat.le_trans I2.ok.bsz I2.sz,
  fun b o e hb => ?_, fun b hb z => ?_, I2.stack, I2.Du⟩
 ·have hx' : (relabel scope X.env).names.lookup x = some .cell ∨ (relabel scope X.env).names.lookup x = some .free := hx
  have key : (x, NameKind.free) ∈ scope.names := by
   have go : ∀ k', (relabel scope X.env).names.lookup x = some k' → (k' = .cell ∨ k' = .free) → (x, NameKind.free) ∈ scope.names := fun k' e hk => by
    have hm := PySem.mem_of_lookup e
    obtain ⟨⟨n, k⟩, hn, q⟩ := List.mem_map.mp hm
    by_cases hr : (k == NameKind.free && X.env.scope.kind == .function && X.env.kindOf n == some .cell) = true
    ·have q' : (n, NameKind.cell) = (x, k') := by rw [← q]; simp [hr]
     cases q'
     have : k = .free := by simp only [Bool.and_eq_true] at hr; simpa using hr.1.1
     subst this
     exact hn
    ·have q' : (n, k) = (x, k') := by rw [← q]; simp [hr]
     cases q'
     rcases hk with rfl | rfl
     ·exact absurd rfl (ok.cellF _ hn)
     ·exact hn
   rcases hx' with h | h
   ·exact go _ h (.inl rfl)
   ·exact go _ h (.inr rfl)
  obtain ⟨c, h1, _⟩ := BP hf key
  exact ⟨c, h1⟩
 ·obtain ⟨o, e⟩ := ex b hb
  exact ⟨Nat.ne_of_lt (Nat.lt_of_lt_of_le (Heap.lt_size e) hC), fun x c h => (f2 b hb).2.2.2.2.1 x c (Z7 hf h).1⟩
 ·rcases (f2 b hb).2.2.2.1 with z | z
  ·exact I2.ok.noex b o e z
  ·exact absurd (Nat.lt_of_lt_of_le (Heap.lt_size e) (Nat.le_trans I2.ok.bsz z)) (Nat.lt_irrefl _)
 ·rcases List.mem_cons.mp (I2.Et b z) with z | z
  ·exact (f2 b hb).2.1 z
  ·exact (f2 b hb).2.2.1 z
theorem VZ (ok : JL X scope N ix) (I2 : Inv X pins σ H2 s2) (f2 : ∀ b ∈ fp, Us X pins H2 b) {s : Shared} {H : Hp} {m : Str → Option Value} (u : Un (frs X.stack) fp H2 H s2.heap s.heap) :
  ∀ (i : Nat) (x : Str) (v : V), N[i]? = some x → (Qq ix σ)[i]? = some (some v) → ∃ w, RelV v w ∧ Look (ZA X scope C N fp s2 H2).env s.heap m x w := fun j x v hN hv => by
 obtain ⟨i, hi, hs⟩ := Es hv
 obtain ⟨hx, hm, hr⟩ := ok.cap j x i hN hi
 have hk : X.env.kindOf x = some .cell := ok.free _ hm rfl
 obtain ⟨m0, _, hl⟩ := I2.loc
 obtain ⟨w, r, l⟩ := hl i x v hx hs (.inr (.inl hk))
 refine ⟨w, r, .inr ⟨.inl hr, ?_⟩⟩
 rcases l with ⟨z, _⟩ | ⟨_, c, e, hc⟩
 ·rw [hk] at z; cases z
 ·obtain ⟨c', h1, h2⟩ := BP (Ov ok I2) hm
  rw [e] at h2
  cases h2
  refine ⟨c, h1, ?_⟩
  obtain ⟨o, ho, hd⟩ := hc
  obtain ⟨sl, q⟩ := u.any ho (I2.freeC x c e) fun z => (f2 c z).2.2.2.2.1 x c e rfl
  exact ⟨_, q, hd⟩
end
end DL
namespace DL
open PySem PySem.Spec PyProof.Rows L2
section
variable {prog : Program} {w : World} {A : Around} {R : Result → Shared → Prop} {s : Shared}
theorem VS {elt target iter : Expr} {ifs : List Expr} {scope : Scope} {pos : Pos} {it acc : Value} {env : Env} (I : Nat → Shared → Prop)
  (turn : ∀ n s, I n s → wpAny (model prog w) A (pyNext it) (fun r s₁ => match r with
   | none => R (.ok .next) s₁
   | some v => wpAny (model prog w) A (letOwnedTupleGo target it v) (fun _ s₁' => wpAny (model prog w) A (assign target env v) (fun _ s₂ =>
     wpAny (model prog w) A (forIn ifs true fun c r => if r = true then do let ok ← isTrue c env (eval c env); pure (ForInStep.yield ok) else pure (ForInStep.yield r)) (fun ok s₃ =>
      if ok = true then wpAny (model prog w) A (eval elt env) (fun x s₄ =>
       wpAny (model prog w) A (call (.builtin "list.append") [acc, x]) (fun _ s₅ => ∃ m, m < n ∧ I m s₅) (fun _ _ => False) s₄) (fun _ _ => False) s₃
      else ∃ m, m < n ∧ I m s₃) (fun _ _ => False) s₂) (fun _ _ => False) s₁') (fun _ _ => False) s₁) (fun _ _ => False) s)
  (n : Nat) (h : I n s) : codeAny (model prog w) A (.compLoop (.ListComp elt [⟨target, iter, ifs, 0⟩] scope pos) 0 it acc env) R s := by
 refine codeAny_loop rfl I (fun n s hI => ?_) n h
 show wpAny _ A ((compTurn (.ListComp elt [⟨target, iter, ifs, 0⟩] scope pos) 0 it acc env).onRaise (fun x => do noteFrame x env; theTreesLotGoes x)) _ _ s
 refine wpAny_noted ?_
 rw [compTurn_list]
 refine wpAny_bind (wpAny_standAt (wpAny_bind (wpAny_mono (turn n s hI) (fun r s₁ h₁ => ?_) fun _ _ h' => h'.elim)))
 cases r with
 | none => exact wpAny_pure h₁
 | some v =>
  refine wpAny_bind (wpAny_mono h₁ (fun _ s₁' h₁' => ?_) fun _ _ h' => h'.elim)
  refine wpAny_bind (wpAny_mono h₁' (fun _ s₂ h₂ => wpAny_bind (wpAny_mono h₂ (fun ok s₃ h₃ => ?_) fun _ _ h' => h'.elim)) fun _ _ h' => h'.elim)
  cases ok with
  | false => exact wpAny_pure ⟨rfl, h₃⟩
  | true =>
   exact wpAny_bind (wpAny_bind (wpAny_mono h₃ (fun x s₄ h₄ => wpAny_bind (wpAny_mono h₄ (fun _ s₅ h₅ => wpAny_pure (wpAny_pure ⟨rfl, h₅⟩)) fun _ _ h' => h'.elim)) fun _ _ h' => h'.elim))
end
def Yl (K : PySem.W.Frag) (J : It) (ds : List PyData) (M : Mp) (H : Hp) : Prop := ∀ M2 H2, Step M H M2 H2 → ∀ i,
 (i < ds.length → J.go i H2 ∧ ∀ x H', J.yld i H2 x H' → ZK K M2 H2 → ZK K M2 H' ∧ Step M2 H2 M2 H' ∧ ∃ d, ds[i]? = some d ∧ Dt K M2 H' x d) ∧ (ds.length ≤ i → J.stop i H2)
abbrev Y2 := DSt → Mp → (List PyData → Mp → Prop) → Prop
def DI (X : Cx) (tg iter : Expr) (src : Y2) : Prop := ∃ wi, PI X tg iter wi ∧ ∀ σ H Δ M Ψ (R : It → Hp → Prop), ZK X.K M H → QJ X.K M H σ Δ → src Δ M Ψ →
 (∀ J H' M' ds, ZK X.K M' H' → Step M H M' H' → Yl X.K J ds M' H' → Ψ ds M' → R J H') → wi σ H R
section
variable {X : Cx} {tg iter : Expr}
def Zfv (te : DTE) : Y2 := fun Δ M Ψ => te Δ M fun x M1 => onL x fun ds => Ψ ds M1
def ZfJ (te : DTE) : Y2 := fun Δ M Ψ => te Δ M fun x M1 => onT x fun ds => Ψ ds M1
theorem Q6 {te : DTE} (he : DE X iter te) : DI X tg iter (Zfv te) := by
 obtain ⟨t, p, q⟩ := he
 refine ⟨_, D6 p, fun σ H Δ M Ψ R dr er h k => ?_⟩
 refine q σ H Δ M _ _ dr er h fun v H1 x M1 r1 st rv hx => ?_
 replace hx := Ex hx
 obtain ⟨ds, rfl, hΨ⟩ := hx
 obtain ⟨a, xs, rfl, h1, h2⟩ := rv.lst
 refine ⟨a, rfl, ⟨xs, h1.sq⟩, k _ H1 M1 ds r1 st (fun M2 H2 st2 i => ⟨fun hi => ?_, fun hi => ?_⟩) hΨ⟩
 ·have hx : i < xs.length := by rw [h2.length]; exact hi
  refine ⟨⟨xs, xs[i], (h1.step st2).sq, by simp [hx]⟩, fun x H' y => ?_⟩
  obtain ⟨e, y⟩ := y
  obtain ⟨d, hd, hy⟩ := (h2.step st2).Pq (y xs (h1.step st2).sq)
  subst e
  exact fun r => ⟨r, Step.refl, d, hd, hy⟩
 ·exact ⟨xs, (h1.step st2).sq, by rw [h2.length]; exact hi⟩
theorem Yk {te : DTE} (he : DE X iter te) : DI X tg iter (ZfJ te) := by
 obtain ⟨t, p, q⟩ := he
 refine ⟨_, O4 p, fun σ H Δ M Ψ R dr er h k => ?_⟩
 refine q σ H Δ M _ _ dr er h fun v H1 x M1 r1 st rv hx => ?_
 replace hx := G6 hx
 obtain ⟨ds, rfl, hΨ⟩ := hx
 obtain ⟨a, xs, rfl, h1, h2⟩ := rv.tup
 refine ⟨a, rfl, ⟨xs, h1.sq⟩, k _ H1 M1 ds r1 st (fun M2 H2 st2 i => ⟨fun hi => ?_, fun hi => ?_⟩) hΨ⟩
 ·have hx : i < xs.length := by rw [h2.length]; exact hi
  refine ⟨⟨xs, xs[i], (h1.step st2).sq, by simp [hx]⟩, fun x H' y => ?_⟩
  obtain ⟨e, y⟩ := y
  obtain ⟨d, hd, hy⟩ := (h2.step st2).Pq (y xs (h1.step st2).sq)
  subst e
  exact fun r => ⟨r, Step.refl, d, hd, hy⟩
 ·exact ⟨xs, (h1.step st2).sq, by rw [h2.length]; exact hi⟩
noncomputable def XJ (lo : Int) (n : Nat) : List PyData := (List.range n).map fun (i : Nat) => PyData.int (lo + (i : Int))
theorem QD (lo : Int) (n : Nat) : (XJ lo n).length = n := by unfold XJ; rw [List.length_map, List.length_range]
theorem X8 {lo : Int} {n i : Nat} (h : i < n) : (XJ lo n)[i]? = some (.int (lo + (i : Int))) := by
 unfold XJ
 rw [List.getElem?_map, List.getElem?_range h]
 rfl
theorem NK {K : PySem.W.Frag} {M : Mp} {H : Hp} (lo : Int) (n : Nat) : Yl K (Itr lo n) (XJ lo n) M H := fun M2 H2 st2 i => by
 rw [QD]
 refine ⟨fun hi => ⟨hi, fun x H' y => ?_⟩, fun hi => hi⟩
 obtain ⟨e, y⟩ := y
 subst y e
 exact fun r => ⟨r, Step.refl, _, X8 hi, Dt.int _⟩
def Zbr (ta : DTA) : Y2 := fun Δ M Ψ => ta Δ M fun xs M1 => on1 xs fun x => onI x fun j => InR j ∧ Ψ (XJ 0 j.toNat) M1
theorem Ys {a : Expr} {ta : DTA} {p p2 : Pos} (hg0 : Gl X "range") (hm : X.mg "range" = none) (ha : DA X [a] ta) (hs : autoParam (starEach [a] X.env = [(false, eval a X.env)]) zz3._auto_1) : DI X tg (.Call (.Name "range" p) [a] [] p2) (Zbr ta) := by
 obtain ⟨t1, p1, q1⟩ := ha
 refine ⟨_, Wu hg0 hm p1 hs, fun σ H Δ M Ψ R dr er h k => ?_⟩
 refine q1 σ H Δ M _ _ dr er h fun vs H1 xs M1 r1 st rv hx => ?_
 replace hx := ZS hx
 obtain ⟨x, rfl, hx⟩ := hx
 replace hx := ZM hx
 obtain ⟨j, rfl, ⟨h1, h2⟩, hΨ⟩ := hx
 obtain ⟨v, rfl, hv⟩ := Paired.one rv
 exact ⟨j, by rw [Qd.int hv], h1, h2, k _ H1 M1 _ r1 st (NK 0 j.toNat) hΨ⟩
def Zex (ta : DTA) : Y2 := fun Δ M Ψ => ta Δ M fun xs M1 => on2 xs fun x y => onI x fun i => onI y fun j => (InR i ∧ InR j) ∧ Ψ (XJ i (j - i).toNat) M1
end
def W6 (ow : Bool) (Φ : DK) (acc : List PyData) (M : Mp) : Prop := match ow with | true => ∀ p, M p = none → Φ (.own p) (Zv M p (.lst acc)) | false => Φ (.dat (.list acc)) M
def Px (ow : Bool) (src : Y2) (ix : List (Option Nat)) (g : DTG) (tc : DTT) (te : DTE) : DTE := fun Δ M Φ => src Δ M fun ds M1 => ds.length ≤ sizeLine ∧ ∃ J : Nat → List PyData → Mp → Prop, J 0 [] M1 ∧
 (∀ i d acc M', ds[i]? = some d → J i acc M' → g (.dat d) (W5 ix Δ) M' fun Δ2 M2 => tc Δ2 M2 fun b M3 => if b = true then te Δ2 M3 fun y M4 => onD y fun e => J (i + 1) (acc ++ [e]) M4 else J (i + 1) acc M3) ∧
 ∀ acc M', J ds.length acc M' → W6 ow Φ acc M'
def DTs (X : Cx) (ifs : List Expr) (τ : DTT) : Prop := ∀ (pins : List (Addr × Obj)) (s : Shared) (σ : L2.St) (H : Hp) (Δ : DSt) (M : Mp) (Φ : Bool → Mp → Prop), L2.Inv X pins σ H s → ZK X.K M H → QJ X.K M H σ Δ → τ Δ M Φ →
 wpAny (model X.prog X.w) X.A (forIn ifs true fun c r => if r = true then do let ok ← isTrue c X.env (eval c X.env); pure (ForInStep.yield ok) else pure (ForInStep.yield r))
  (fun b s' => ∃ H' M', L2.Inv X pins σ H' s' ∧ ZK X.K M' H' ∧ Step M H M' H' ∧ Φ b M') X.xe s
def Zfd : DTT := fun _ M Φ => Φ true M
theorem Z6 {X : Cx} : DTs X [] Zfd := fun pins s σ H Δ M Φ I dr er h => wpAny_tests_nil ⟨H, M, I, dr, Step.refl, h⟩
theorem Xw {X : Cx} {c : Expr} {τ : DTT} (hc : DT X c τ) : DTs X [c] τ := fun pins s σ H Δ M Φ I dr er h => by
 obtain ⟨t, p, q⟩ := hc
 refine wpAny_tests_one (thn (p pins s σ H (fun b H' => ∃ M', ZK X.K M' H' ∧ Step M H M' H' ∧ Φ b M') I (q σ H Δ M Φ _ dr er h fun b H' M' a c d => ⟨M', a, c, d⟩)) fun b s' h => ?_)
 obtain ⟨H', I', M', a, c, d⟩ := h
 exact ⟨H', M', I', a, c, d⟩
end DL
namespace DL
open PySem PySem.Spec PyProof.Rows L2
section
variable {X : Cx}
abbrev CompSrc (ds : List PyData) (M1 : Mp) (Δ : DSt) (ix : List (Option Nat)) (g : DTG) (tc : DTT) (te : DTE) (ψ : List PyData → Mp → Prop) : Prop := ds.length ≤ sizeLine ∧ ∃ J : Nat → List PyData → Mp → Prop, J 0 [] M1 ∧
 (∀ i d acc M', ds[i]? = some d → J i acc M' → g (.dat d) (W5 ix Δ) M' fun Δ2 M2 => tc Δ2 M2 fun b M3 => if b = true then te Δ2 M3 fun y M4 => onD y fun e => J (i + 1) (acc ++ [e]) M4 else J (i + 1) acc M3) ∧ ∀ acc M', J ds.length acc M' → ψ acc M'
set_option maxHeartbeats 2000000 in
theorem Wj {elt tg iter : Expr} {ifs : List Expr} {scope : Scope} {pos ps : Pos} {src : Y2} {N : List Str} {ix : List (Option Nat)} {g : DTG} {tc : DTT} {te : DTE} {use : Option (Value → Sem Unit)} {QQ : Value → Shared → Prop} {ψ : List PyData → Mp → Prop} (ok : JL X scope N ix) (hi : DI X tg iter src)
  (hg : ∀ C ex s H, DG (ZA X scope C N ex s H) tg g) (ht : ∀ C ex s H, DTs (ZA X scope C N ex s H) ifs tc) (he : ∀ C ex s H, DE (ZA X scope C N ex s H) elt te) (hc : X.calm = true)
  (hs : ∀ x, foldedSetIterable iter X.env x = pure x) {σ : L2.St} {H : Hp} {Δ : DSt} {M : Mp} {pins : List (Addr × Obj)} {s : Shared} (dr : ZK X.K M H) (er : QJ X.K M H σ Δ) (h : src Δ M fun ds M1 => CompSrc ds M1 Δ ix g tc te ψ) (I : L2.Inv X pins σ H s)
  (hfin : ∀ (s4 : Shared) (C D : Addr) (H' : Hp) (M' : Mp) (vs : List V) (acc : List PyData), L2.Inv X pins σ (upd H' D (.lst vs)) s4 → H' D = none → ZK X.K M' H' → Step M H M' H' → Dts X.K M' H' vs acc → ψ acc M' → (∃ m, s4.heap.Ns C m) → Us X pins (upd H' D (.lst vs)) C →
   compPost (model X.prog X.w) X.A X.xe use QQ (.ref D) C (.ok .next) s4) :
  wpAny (model X.prog X.w) X.A (comprehension (.ListComp elt [⟨tg, iter, ifs, 0⟩] scope pos) scope X.env ps (newList []) false (eval iter X.env) use) QQ X.xe s := by
 obtain ⟨wi, pi, qi⟩ := hi
 refine wpAny_comprehension_free (use := use) (cl := CH X.env scope.names []) rfl hs (Js (Ov ok I)) ok.kind ok.names ?_
 show wpAny _ _ (eval iter X.env) _ _ s
 refine thn (pi pins s σ H (fun J H' => ∃ M' ds, ZK X.K M' H' ∧ Step M H M' H' ∧ Yl X.K J ds M' H' ∧ ds.length ≤ sizeLine ∧ ∃ W : Nat → List PyData → Mp → Prop, W 0 [] M' ∧
   (∀ i d acc M', ds[i]? = some d → W i acc M' → g (.dat d) (W5 ix Δ) M' fun Δ2 M2 => tc Δ2 M2 fun b M3 => if b = true then te Δ2 M3 fun y M4 => onD y fun e => W (i + 1) (acc ++ [e]) M4 else W (i + 1) acc M3) ∧
   ∀ acc M', W ds.length acc M' → ψ acc M') I (qi σ H Δ M _ _ dr er h fun J H' M' ds a b c d => ⟨M', ds, a, b, c, d⟩)) fun x s1 h1 => thn h1 fun itv s2 h2 => ?_
 obtain ⟨it, fp, tn, J, H2, e, I2, T, st2, f2, M1, ds, dr1, stp, yl, hz, W, w0, wt, wd⟩ := h2
 subst e
 have exo : ∀ b ∈ fp, ∃ o, s2.heap.get? b = some o := fun b hb => let ⟨o, q, _⟩ := T.obj 0 _ st2 b hb; ⟨o, q⟩
 refine wpAny_newObj_type (wpAny_newFunctionEnv ok.cellF (by intro y hy; simp at hy) (fun h₁ hns₁ hsb₁ => ?_) ok.kind)
 dsimp only at hns₁ hsb₁ ⊢
 generalize hH2 : s2.heap.push { cls := .type "list", dict := none, data := .seq ([] : List Value).toArray } = HH at hns₁ hsb₁ ⊢
 have hC : HH.objs.size = s2.heap.objs.size + 1 := by rw [← hH2, Heap.size_push]
 have hDC : s2.heap.objs.size ≠ HH.objs.size := by rw [hC]; exact Nat.ne_of_lt (Nat.lt_succ_self _)
 have hCle : s2.heap.objs.size ≤ HH.objs.size := by rw [hC]; exact Nat.le_succ _
 have below : ∀ b, b < s2.heap.objs.size → b ≠ HH.objs.size ∧ b ≠ s2.heap.objs.size := fun b hb => ⟨by rw [hC]; exact Nat.ne_of_lt (Nat.lt_succ_of_lt hb), Nat.ne_of_lt hb⟩
 have old : ∀ b o, s2.heap.get? b = some o → h₁.get? b = some o := fun b o e => hsb₁.extBut b o (below b (Heap.lt_size e)).1 (Heap.get?_push_of_some _ (hH2 ▸ Heap.get?_push_of_some _ e))
 have hacc : h₁.get? s2.heap.objs.size = some { cls := .type "list", data := .seq ([] : List Value).toArray } := hsb₁.extBut _ _ hDC (Heap.get?_push_of_some _ (hH2 ▸ Heap.get?_push_size _ rfl))
 generalize hCC : HH.objs.size = C at *
 generalize hDD : s2.heap.objs.size = D at hDC hacc below hCle
 have hDs : s2.heap.objs.size ≤ D := Nat.le_of_eq hDD
 have hCs : s2.heap.objs.size ≤ C := by rw [hDD]; exact hCle
 have fD : ∀ b ∈ fp, b ≠ D ∧ b ≠ C := fun b hb => by
  obtain ⟨o, q⟩ := exo b hb
  exact ⟨(below b (by rw [← hDD]; exact Heap.lt_size q)).2, (below b (by rw [← hDD]; exact Heap.lt_size q)).1⟩
 have okY : (ZA X scope C N fp s2 H2).Ok := Xd ok I2 f2 exo hCs
 have fsD : ∀ b ∈ frs X.stack, b < s2.heap.objs.size := fun b hb => by
  obtain ⟨_, o, ho, _⟩ := I2.stack.mem hb
  exact Heap.lt_size ho
 have cellD : ∀ x c, (ZA X scope C N fp s2 H2).env.cells.lookup x = some c → c < s2.heap.objs.size ∧ H2 c = none := fun x c e => by
  have e' := (Z7 (Ov ok I2) e).1
  obtain ⟨v, q⟩ := I2.cell x c e'
  exact ⟨q.lt, I2.freeC x c e'⟩
 have fpY : ∀ {H' : Hp} {ps : List (Addr × Obj)}, (∀ b ∈ fp, H' b = none) → (∀ p ∈ ps, p.1 = D) → ∀ b ∈ fp, Us (ZA X scope C N fp s2 H2) ps H' b := fun {H' ps} hn hp b hb =>
  ⟨hn b hb, (fD b hb).2, okY.exfs b hb, .inl hb, (okY.exf b hb).2, fun p hp' z => by
   have q : p ∈ ps := hp'
   rw [hp p q] at z
   exact (fD b hb).1 z.symm⟩
 have onlyD : ∀ (o : Obj), ∀ p ∈ [(D, o)], p.1 = D := fun o p hp => by
  have q : p = (D, o) := by simpa using hp
  rw [q]
 have reloc : ∀ {ps : List (Addr × Obj)} {σ' : L2.St} {H' : Hp} {s' : Shared} {o : Obj}, L2.Inv (ZA X scope C N fp s2 H2) ps σ' H' s' → s'.heap.get? D = some o → H' D = none → (∀ v, o.data ≠ .cell v) →
   L2.Inv (ZA X scope C N fp s2 H2) [(D, o)] (Qq ix σ) H' s' := fun {ps σ' H' s' o} J' hD hn hd => by
  obtain ⟨m, hm, _⟩ := J'.loc
  refine ⟨J'.ok, J'.os, J'.bare, J'.base, ⟨m, hm, fun i x v a b _ => VZ ok I2 f2 J'.base i x v a b⟩, J'.cell, J'.free, J'.freeC, fun p hp => ?_, J'.hok, ?_⟩
  ·have q : p = (D, o) := by
    have z : p ∈ ([] : List (Addr × Obj)) ++ [(D, o)] := hp
    simpa using z
   subst q
   exact ⟨hD, hn, hDC, fun z => absurd (fsD D z) (Nat.not_lt.mpr hDs), hd⟩
  ·show (Qq ix σ).length = N.length
   unfold Qq
   rw [List.length_map, ok.len]
 have start : L2.Inv (ZA X scope C N fp s2 H2) [(D, { cls := .type "list", data := .seq ([] : List Value).toArray })] (Qq ix σ) H2 { s2 with heap := h₁, toks := s2.toks + ([] : List (Str × Value)).length } := by
  refine ⟨okY, rfl, I2.bare, Un.kept old, ⟨_, hns₁, fun i x v a b _ => VZ ok I2 f2 (Un.kept old) i x v a b⟩, fun x c e => ?_, I2.hok.fresh hCs, fun x c e => (cellD x c e).2, fun p hp => ?_, I2.hok.kept old, ?_⟩
  ·obtain ⟨v, o, ho, hd⟩ := I2.cell x c (Z7 (Ov ok I2) e).1
   exact ⟨v, o, old c o ho, hd⟩
  ·have q : p = (D, { cls := .type "list", data := .seq ([] : List Value).toArray }) := by
    have z : p ∈ ([] : List (Addr × Obj)) ++ [(D, { cls := .type "list", data := .seq ([] : List Value).toArray })] := hp
    simpa using z
   subst q
   exact ⟨hacc, I2.hok.fresh hDs, hDC, fun z => absurd (fsD D z) (Nat.not_lt.mpr hDs), fun v z => nomatch z⟩
  ·show (Qq ix σ).length = N.length
   unfold Qq
   rw [List.length_map, ok.len]
 have loop : ∀ s₃ : Shared, s₃ = { s2 with heap := h₁, toks := s2.toks + ([] : List (Str × Value)).length } →
   codeAny (model X.prog X.w) X.A (.compLoop (.ListComp elt [⟨tg, iter, ifs, 0⟩] scope pos) 0 (.ref it) (.ref D) (compEnvC scope (CH X.env scope.names []) C X.env)) (compPost (model X.prog X.w) X.A X.xe use QQ (.ref D) C) s₃ := by
  rintro s₃ rfl
  refine VS (fun n s' => ∃ (i : Nat) (acc : List PyData) (vs : List V) (its : List Value) (nn : Nat) (H' : Hp) (M' : Mp), L2.Inv (ZA X scope C N fp s2 H2) [(D, { cls := .type "list", data := .seq its.toArray nn })] (Qq ix σ) H' s' ∧
   tn i s'.heap ∧ (∀ b ∈ fp, H' b = none) ∧ ZK X.K M' H' ∧ Step M1 H2 M' H' ∧ Vals vs its ∧ Dts X.K M' H' vs acc ∧ W i acc M' ∧ i ≤ ds.length ∧ acc.length ≤ i ∧ n = ds.length - i) ?_ ds.length
   ⟨0, [], [], [], 0, H2, M1, start, T.keep _ _ _ st2 (fun b _ o e => old b o e), fun b hb => (f2 b hb).1, dr1, Step.refl, .nil, .nil, w0, Nat.zero_le _, Nat.le_refl _, rfl⟩
  rintro n s' ⟨i, acc, vs, its, nn, H', M', IY, ti, fr, dr', stp', rv, rd, wi', hil, hal, rfl⟩
  have pinD := IY.pin (D, { cls := .type "list", data := .seq its.toArray nn }) (by simp)
  have fok := fpY (ps := [(D, { cls := .type "list", data := .seq its.toArray nn })]) fr (onlyD _)
  obtain ⟨ygo, ystop⟩ := yl M' H' stp' i
  by_cases hlt : i < ds.length
  ·obtain ⟨jgo, jyl⟩ := ygo hlt
   refine thn (T.item (ZA X scope C N fp s2 H2) rfl rfl rfl hc i _ s' (Qq ix σ) H' (fun _ _ => False) IY fok ti jgo) fun r s4 ⟨u, hr, h4⟩ => ?_
   subst hr
   refine thn h4 fun _ s5 ⟨x, H5, I5, r5, y5, st5, fr5⟩ => ?_
   obtain ⟨dr5, stp5, d, hd, hxd⟩ := jyl x H5 y5 dr'
   replace dr' := dr5
   replace stp' := stp'.trans stp5
   replace rd := rd.step stp5
   have I5' := I5.pinned (fpY (ps := [(D, { cls := .type "list", data := .seq its.toArray nn })]) fr5 (onlyD _)) (T.obj _ _ st5)
   obtain ⟨tg', pg, qg⟩ := hg C fp s2 H2
   refine thn (pg _ s5 (Qq ix σ) H5 x u (fun σ6 H6 => ∃ Δ6 M6, ZK X.K M6 H6 ∧ Step M' H5 M6 H6 ∧ QJ X.K M6 H6 σ6 Δ6 ∧ tc Δ6 M6 fun b M3 => if b = true then te Δ6 M3 fun y M4 => onD y fun e => W (i + 1) (acc ++ [e]) M4 else W (i + 1) acc M3) I5' r5
    (qg x (Qq ix σ) H5 (.dat d) (W5 ix Δ) M' _ _ dr' ((er.step (stp.trans stp')).cap ix) hxd (wt i d acc M' hd wi') fun σ6 H6 Δ6 M6 a b c d => ⟨Δ6, M6, a, b, c, d⟩)) fun _ s6 ⟨σ6, H6, I6, Δ6, M6, dr6, stp6, er6, q6⟩ => ?_
   refine thn (ht C fp s2 H2 _ s6 σ6 H6 Δ6 M6 _ I6 dr6 er6 q6) fun b s7 ⟨H7, M7, I7, dr7, stp7, q7⟩ => ?_
   have keepD : ∀ {σz : L2.St} {Hz : Hp} {sz : Shared}, L2.Inv (ZA X scope C N fp s2 H2) ([(D, { cls := .type "list", data := .seq its.toArray nn })] ++ Xi fp s5.heap) σz Hz sz →
     sz.heap.get? D = some { cls := .type "list", data := .seq its.toArray nn } ∧ Hz D = none ∧ tn (i + 1) sz.heap ∧ ∀ b ∈ fp, Hz b = none := fun {σz Hz sz} Iz => by
    have a := Iz.pin (D, { cls := .type "list", data := .seq its.toArray nn }) (by simp)
    refine ⟨a.1, a.2.1, T.keep _ _ _ st5 fun b hb o e => (Iz.pin (b, o) (List.mem_append_right _ (List.mem_append_right _ (QH hb e)))).1, fun b hb => ?_⟩
    obtain ⟨o, e, _⟩ := T.obj _ _ st5 b hb
    exact (Iz.pin (b, o) (List.mem_append_right _ (List.mem_append_right _ (QH hb e)))).2.1
   cases b with
   | false =>
    have q7' : W (i + 1) acc M7 := by simpa using q7
    obtain ⟨a1, a2, a3, a4⟩ := keepD I7
    have st17 : Step M' H5 M7 H7 := stp6.trans stp7
    exact ⟨ds.length - (i + 1), by omega, i + 1, acc, vs, its, nn, H7, M7, reloc I7 a1 a2 (fun v z => nomatch z), a3, a4, dr7, stp'.trans st17, rv, rd.step st17, q7', hlt, by omega, rfl⟩
   | true =>
    have q7' : te Δ6 M7 fun y M4 => onD y fun e => W (i + 1) (acc ++ [e]) M4 := by simpa using q7
    obtain ⟨te', pe', qe'⟩ := he C fp s2 H2
    refine thn (pe' _ s7 σ6 H7 (fun v H8 => ∃ e M8, ZK X.K M8 H8 ∧ Step M7 H7 M8 H8 ∧ Dt X.K M8 H8 v e ∧ W (i + 1) (acc ++ [e]) M8) I7 (qe' σ6 H7 Δ6 M7 _ _ dr7 (er6.step stp7) q7' fun v H8 x8 M8 a b c d => by
     replace d := QK d
     obtain ⟨e, rfl, w8⟩ := d
     exact ⟨e, M8, a, b, c, w8⟩)) fun y s8 ⟨v, H8, I8, r8, e, M8, dr8, stp8, dv8, w8⟩ => ?_
    obtain ⟨a1, a2, a3, a4⟩ := keepD I8
    have st18 : Step M' H5 M8 H8 := stp6.trans (stp7.trans stp8)
    have lv := rv.length
    have ld := rd.length
    refine call_meets PySem.F.slot_list_append ⟨_, a1, rfl⟩ PySem.F.entry_list_append (PySem.F.args_list_append_2 _ _) (PySem.list_append D its.toArray nn y (by rw [List.size_toArray]; omega)) ⟨a1, ?_⟩
    have q := PySem.IsL.update a1 (·.push y)
    have I8' : L2.Inv (ZA X scope C N fp s2 H2) [] σ6 H8 s8 := I8.Vz fun p hp => nomatch hp
    have I9 := I8'.turned (it := D) (h' := s8.heap.update D (Obj.mapSeq (·.push y))) (t' := s8.toks) (fun b o hb hu => (Heap.get?_update_other s8.heap (Obj.mapSeq (·.push y)) (Ne.symm hb)).trans hu) a2 hDC (.inr hDs)
     (fun x c e z => absurd (z ▸ (cellD x c e).1) (Nat.not_lt.mpr hDs)) (fun p hp => by have z : p ∈ ([] : List (Addr × Obj)) ++ [] := hp; simp at z)
    have ea : (its.toArray.push y) = (its ++ [y]).toArray := by simp
    rw [ea] at q
    refine ⟨ds.length - (i + 1), by omega, i + 1, acc ++ [e], vs ++ [v], its ++ [y], _, H8, M8, reloc I9 q a2 (fun v z => nomatch z), T.keep _ _ _ a3 (fun b hb o e => (Heap.get?_update_other s8.heap (Obj.mapSeq (·.push y)) (Ne.symm (fD b hb).1)).trans e), a4, dr8, stp'.trans st18,
     rv.append (.cons r8 .nil), (rd.step st18).append (.cons dv8 .nil), w8, hlt, by rw [List.length_append, List.length_singleton]; omega, rfl⟩
  ·have hie : i = ds.length := by omega
   refine thn (T.done (ZA X scope C N fp s2 H2) rfl rfl rfl hc i _ s' (Qq ix σ) H' (fun _ _ => False) IY fok ti (ystop (by omega))) fun r s4 ⟨hr, I4⟩ => ?_
   subst hr
   obtain ⟨m4, hm4, _⟩ := I4.loc
   have pD := I4.pin (D, { cls := .type "list", data := .seq its.toArray nn }) (by simp)
   have hCn : H' C = none := I4.free
   have hDn : H' D = none := pD.2.1
   have hok4 : HOk X.prog X.w (upd H' D (.lst vs)) s4.heap := fun b u e => by
    by_cases hb : b = D
    ·subst hb
     rw [Z8] at e
     cases e
     exact ⟨by have := rv.length; have := rd.length; omega, its, nn, rv, pD.1⟩
    ·rw [ZC hb] at e
     refine (I4.hok b u e).Of (fun c v hc' q => q) (fun c q => ?_) fun c xs q => ?_
     ·rw [ZC (Zr q pD.2.1)]; exact q
     ·rw [ZC (Zr q pD.2.1)]; exact q
   have bu : Un (frs X.stack) fp H2 H' s2.heap s4.heap := I4.base
   have un4 : Un (frs X.stack) fp H2 (upd H' D (.lst vs)) s2.heap s4.heap := by
    have nD : ∀ b o, s2.heap.get? b = some o → b ≠ D ∧ b ≠ C := fun b o e => ⟨fun z => absurd (z ▸ Heap.lt_size e) (Nat.not_lt.mpr hDs), fun z => absurd (z ▸ Heap.lt_size e) (Nat.not_lt.mpr hCs)⟩
    refine ⟨fun b o e n hb hx => bu.keep b o e n hb hx, fun b o e n hb hx => bu.slot b o e n hb hx, fun b o e n hx => by rw [ZC (nD b o e).1]; exact bu.free b o e n hx, fun b o e hx => bu.there b o e hx, fun b xs e => ?_, fun b o xs e => ?_, fun b ps e => ?_⟩
    ·have q := bu.tups b xs e
     rw [ZC (Zr q pD.2.1)]; exact q
    ·have q := bu.frzs b o xs e
     rw [ZC (Zr q pD.2.1)]; exact q
    ·obtain ⟨mo, q⟩ := bu.tbls b ps e
     exact ⟨mo, by rw [ZC (Zr q pD.2.1)]; exact q⟩
   have os4 : s4.os = s2.os := I4.os
   have IX : L2.Inv X pins σ (upd H' D (.lst vs)) s4 := I2.Zau (s' := s4) os4 un4 hok4 I4.bare fun b hb => ⟨(f2 b hb).2.2.2.1, (f2 b hb).2.1, (f2 b hb).2.2.2.2.1, (f2 b hb).2.2.2.2.2⟩
   subst hie
   exact hfin s4 C D H' M' vs acc IX hDn dr' (stp.trans stp') rd (wd acc M' wi') ⟨m4, hm4⟩ (I2.To hCs (by rw [ZC (Ne.symm hDC)]; exact hCn))
 have hst₁ : tn 0 h₁ := T.keep _ _ _ st2 fun b _ o e => old b o e
 exact codeAny_compStart_list (loop _ rfl) (T.self _ 0 _ _ _ hst₁ (loop _ rfl))
theorem Zba {h h' : Heap} {C : Addr} {m : Str → Option Value} (n : h.Ns C m) (k : ∀ o, h.get? C = some o → h'.get? C = some o) : h'.Ns C m := by
 obtain ⟨o, es, ep, ho, r⟩ := n
 exact ⟨o, es, ep, k o ho, r⟩
theorem gone {pins : List (Addr × Obj)} {σ : L2.St} {H : Hp} {s : Shared} {C : Addr} {h' : Heap} (I : L2.Inv X pins σ H s) (f : Us X pins H C) (hsb : Heap.SameBut C s.heap h') : L2.Inv X pins σ H { s with heap := h' } :=
 I.turned (t' := s.toks) (fun b o hb e => hsb.extBut b o hb e) f.1 f.2.1 f.2.2.2.1 f.2.2.2.2.1 f.2.2.2.2.2
theorem OI {ow : Bool} {Φ : DK} {Q : VK} {M M' : Mp} {H H' : Hp} {D : Addr} {vs : List V} {acc : List PyData} (dr' : ZK X.K M' H') (st : Step M H M' H') (rd : Dts X.K M' H' vs acc) (hDn : H' D = none) (fin : W6 ow Φ acc M') (k : Rch X.K M H Φ Q) : Q (.ref D) (upd H' D (.lst vs)) := by
 cases ow with
 | true =>
  have fin' : ∀ p, M' p = none → Φ (.own p) (Zv M' p (.lst acc)) := by simpa [W6] using fin
  exact k _ _ (.own D) _ (dr'.VM (Step.Q4 hDn) rd) (st.trans (Step.Q4 hDn)) rfl (fin' D (dr'.tracked hDn))
 | false =>
  have fin' : Φ (.dat (.list acc)) M' := by simpa [W6] using fin
  exact k.dat (dr'.new hDn) (st.trans (Step.new hDn)) (Dt.Jl dr' hDn rd) fin'
theorem Qc (ow : Bool) {elt tg iter : Expr} {ifs : List Expr} {scope : Scope} {pos : Pos} {src : Y2} {N : List Str} {ix : List (Option Nat)} {g : DTG} {tc : DTT} {te : DTE} (ok : JL X scope N ix) (hi : DI X tg iter src)
  (hg : ∀ C ex s H, DG (ZA X scope C N ex s H) tg g) (ht : ∀ C ex s H, DTs (ZA X scope C N ex s H) ifs tc) (he : ∀ C ex s H, DE (ZA X scope C N ex s H) elt te) (hc : X.calm = true)
  (hs : autoParam (∀ x, foldedSetIterable iter X.env x = pure x) zz2._auto_1) : DE X (.ListComp elt [⟨tg, iter, ifs, 0⟩] scope pos) (Px ow src ix g tc te) := by
 refine ⟨fun σ H Q => ∀ pins s, L2.Inv X pins σ H s → wpAny (model X.prog X.w) X.A (eval (.ListComp elt [⟨tg, iter, ifs, 0⟩] scope pos) X.env) (EP X pins σ Q) X.xe s, fun pins s σ H Q I h => h pins s I, fun σ H Δ M Φ Q dr er h k pins s I => ?_⟩
 rw [eval_ListComp]
 refine Wj (ψ := W6 ow Φ) ok hi hg ht he hc hs dr er h I fun s4 C D H' M' vs acc IX hDn dr' st rd fin hm f => ?_
 obtain ⟨m, hm⟩ := hm
 exact ⟨m, hm, fun h' hsb => ⟨.ref D, _, gone IX f hsb, rfl, OI dr' st rd hDn fin k⟩⟩
theorem Uw (i : Nat) (ow : Bool) {x : Str} {pos' spos : Pos} (hN : X.N.Nodup) {elt tg iter : Expr} {ifs : List Expr} {scope : Scope} {pos : Pos} {src : Y2} {N : List Str} {ix : List (Option Nat)} {g : DTG} {tc : DTT} {te : DTE} (ok : JL X scope N ix) (hi : DI X tg iter src)
  (hg : ∀ C ex s H, DG (ZA X scope C N ex s H) tg g) (ht : ∀ C ex s H, DTs (ZA X scope C N ex s H) ifs tc) (he : ∀ C ex s H, DE (ZA X scope C N ex s H) elt te) (hc : X.calm = true)
  (hs : autoParam (∀ x, foldedSetIterable iter X.env x = pure x) zz2._auto_1) (hin : autoParam (X.N[i]? = some x) zz3._auto_1) (hx : autoParam (Loc X.env.scope x) zz8._auto_1)
  (hsw : autoParam (swapsWith (.ListComp elt [⟨tg, iter, ifs, 0⟩] scope pos) (some (.Name x pos')) spos.line X.env = pure true) zz3._auto_1)
  (hf : autoParam (X.fn x = true ∨ X.env.scope.names.lookup x = some .local) zz0._auto_1) :
  DS X (.Assign [.Name x pos'] (.ListComp elt [⟨tg, iter, ifs, 0⟩] scope pos) spos) (Zdj (Px ow src ix g tc te) (BH i)) := by
 refine ⟨fun E σ H => ∀ pins s, L2.Inv X pins σ H s → wpAny (model X.prog X.w) X.A (exec (.Assign [.Name x pos'] (.ListComp elt [⟨tg, iter, ifs, 0⟩] scope pos) spos) X.env) (SP X pins E) X.xe s, fun pins s σ H E I h => h pins s I, fun σ H Δ M D E dr er h k pins s I => ?_⟩
 rw [exec_Assign_Name_used _ _ _ _ hsw]
 refine wpAny_bind (wpAny_standAt (wpAny_bind ?_))
 show wpAny _ _ (do let _ ← comprehension (.ListComp elt [⟨tg, iter, ifs, 0⟩] scope pos) scope X.env _ (newList []) false (eval iter X.env) (some (assign (.Name x pos') X.env))) _ _ s
 refine wpAny_bind (wpAny_mono (Wj (QQ := fun _ s' => SP X pins E .next s') (use := some (assign (.Name x pos') X.env)) (ψ := W6 ow fun y M1 => D.nx (Δ.set i (some y)) M1) ok hi hg ht he hc hs dr er h I fun s4 C DD H' M' vs acc IX hDn dr' st rd fin hm f => ?_)
  (fun _ s' hq => wpAny_pure (wpAny_pure hq)) fun _ _ e => e)
 obtain ⟨m, hm⟩ := hm
 have hm0 := hm
 obtain ⟨oC, es, ep, hoC, hr1, hr2⟩ := hm0
 have IP : L2.Inv X (pins ++ [(C, oC)]) σ (upd H' DD (.lst vs)) s4 := IX.Vz fun p hp => by
  rcases List.mem_append.mp hp with hp | hp
  ·exact IX.pin p (List.mem_append_right _ hp)
  ·rw [List.mem_singleton.mp hp]
   exact ⟨hoC, f.1, f.2.1, f.2.2.1, fun v z => nomatch (hr1.symm.trans z)⟩
 have nxt : ∀ Q' : L2.St → Hp → Prop, (Q' (σ.set i (some (.ref DD))) (upd H' DD (.lst vs))) → wpAny (model X.prog X.w) X.A (assign (.Name x pos') X.env (.ref DD)) (fun _ s' => ∃ σ' H', L2.Inv X (pins ++ [(C, oC)]) σ' H' s' ∧ Q' σ' H') X.xe s4 := fun Q' hq =>
  D8 (pos := pos') hN hin hx hf _ s4 σ _ (.ref DD) (.ref DD) Q' IP rfl hq
 have kq : E.nx (σ.set i (some (.ref DD))) (upd H' DD (.lst vs)) := by
  cases ow with
  | true =>
   have fin' : ∀ p, M' p = none → D.nx (Δ.set i (some (.own p))) (Zv M' p (.lst acc)) := by simpa [W6] using fin
   have st2 : Step M H (Zv M' DD (.lst acc)) (upd H' DD (.lst vs)) := st.trans (Step.Q4 hDn)
   exact k.nx _ _ _ _ (dr'.VM (Step.Q4 hDn) rd) st2 ((er.step st2).set (v := .ref DD) (x := .own DD) rfl) (fin' DD (dr'.tracked hDn))
  | false =>
   have fin' : D.nx (Δ.set i (some (.dat (.list acc)))) M' := by simpa [W6] using fin
   have st2 : Step M H M' (upd H' DD (.lst vs)) := st.trans (Step.new hDn)
   exact k.nx _ _ _ _ (dr'.new hDn) st2 ((er.step st2).set (v := .ref DD) (x := .dat (.list acc)) (Dt.Jl dr' hDn rd)) fin'
 show wpAny _ _ (assign (.Name x pos') X.env (.ref DD)) _ _ s4
 refine thn (nxt (fun σ' H' => σ' = σ.set i (some (.ref DD)) ∧ E.nx σ' H') ⟨rfl, kq⟩) fun _ s5 ⟨σ5, H5, I5, _, q5⟩ => ?_
 have p5 := I5.pin (C, oC) (by simp)
 refine ⟨m, Zba hm fun o ho => ?_, fun h' hsb => ⟨σ5, H5, ?_, q5⟩⟩
 ·rw [hoC] at ho
  cases ho
  exact p5.1
 ·have I6 : L2.Inv X pins σ5 H5 s5 := I5.Vz fun p hp => I5.pin p (List.mem_append_right _ (List.mem_append_left _ hp))
  exact gone I6 ⟨p5.2.1, f.2⟩ hsb
end
end DL
namespace DL
open PySem PySem.Spec PyProof.Rows L2
section
variable {X : Cx}
def Jy (xs : List DV) (M : Mp) (ns : List Int) : Prop := xs = [.dat (.list (ns.map PyData.int))] ∨ ∃ l, xs = [.own l] ∧ M l = some (.lst (ns.map PyData.int))
theorem Jy.sq {M : Mp} {H : Hp} {vs : List V} {xs : List DV} {ns : List Int} (h : Jy xs M ns) (r : ZK X.K M H) (rv : Vn X.K M H vs xs) : ∃ p, vs = [.ref p] ∧ SqL X.K H p (ns.map V.int) := by
 rcases h with rfl | ⟨l, rfl, hm⟩
 ·obtain ⟨v, rfl, h1⟩ := Paired.one rv
  obtain ⟨p, ys, rfl, g1, g2⟩ := Qd.lst h1
  rw [Vv g2] at g1
  exact ⟨p, rfl, g1.sq⟩
 ·obtain ⟨v, rfl, h1⟩ := Paired.one rv
  cases (show v = .ref l from h1)
  obtain ⟨ws, g1, g2⟩ := r.ls l _ hm
  rw [Vv g2] at g1
  exact ⟨l, rfl, SqL.of g1⟩
def Tc : D1 := fun xs M Φ => ∃ ns : List Int, Jy xs M ns ∧ ns.length < 64 ∧ ∀ ns' : List Int, ns'.Perm ns → ns'.Pairwise (· ≤ ·) → Φ (.dat (.list (ns'.map PyData.int))) M
theorem CU (hc : X.calm = true) : QF X (.builtin "min") (fun xs H Q => ∃ (p : Addr) (ns : List Int), xs = [.ref p] ∧ SqL X.K H p (ns.map V.int) ∧ 0 < ns.length ∧ ∀ m ∈ ns, (∀ a ∈ ns, m ≤ a) → Q (.int m) H) := by
 intro pins s σ H xs us Q I r h
 obtain ⟨p, ns, rfl, hq, h0, q⟩ := h
 obtain ⟨u, rfl, rx⟩ := vals1 r
 cases rx
 obtain ⟨its, rv, pl, hz⟩ := I.list hq
 have hi : IntsAre its ns := intsAre_of rv
 obtain ⟨xs, e⟩ := hi.allInts.items
 have hns : ns = xs.toList.map (·.1) := by rw [← hi.numsOf, ← nums_intItems, ← e]
 have hsz : 0 < xs.size := by
  have h3 := h0; rw [hns, List.length_map, Array.length_toList] at h3; exact h3
 have hl := pl.isList
 rw [e] at hl
 refine min_intList (I.ok.hd hc) hl hsz fun v h' tk hv hk => ?_
 obtain ⟨t, rfl⟩ := intItems_at hv
 obtain ⟨h1, h2⟩ := argBest_lt (numAt xs) (xs.size - 1)
 refine ⟨.int _, H, I.kept hk, ⟨t, rfl⟩, q _ ?_ fun a ha => ?_⟩
 ·rw [hns, numAt_eq]; exact getD_mem (by rw [List.length_map, Array.length_toList]; omega)
 ·rw [hns] at ha
  obtain ⟨j, hj, rfl⟩ := mem_getD ha
  rw [List.length_map, Array.length_toList] at hj
  rw [← numAt_eq]; exact h2 j (by omega)
def OJ : D1 := fun xs M Φ => ∃ ns : List Int, Jy xs M ns ∧ 0 < ns.length ∧ ∀ m ∈ ns, (∀ a ∈ ns, m ≤ a) → Φ (.dat (.int m)) M
def Zc2 : D1 := fun xs M Φ => ∃ ns : List Int, Jy xs M ns ∧ 0 < ns.length ∧ ∀ m ∈ ns, (∀ a ∈ ns, a ≤ m) → Φ (.dat (.int m)) M
theorem Po (hc : X.calm = true) : QC X (.builtin "min") OJ := by
 refine ⟨_, CU hc, fun vs H xs M Φ Q r rv h k => ?_⟩
 obtain ⟨ns, hx, h0, q⟩ := h
 obtain ⟨p, rfl, hs⟩ := hx.sq r rv
 exact ⟨p, ns, rfl, hs, h0, fun m a b => k.dat r Step.refl (Dt.int m) (q m a b)⟩
theorem Paired.three {α β : Type} {F : α → β → Prop} {l : List α} {b c d : β} (h : Paired F l [b, c, d]) : ∃ a a' a'', l = [a, a', a''] ∧ F a b ∧ F a' c ∧ F a'' d := by
 cases h with
 | cons h1 h2 =>
  obtain ⟨a, a', rfl, h3, h4⟩ := Paired.two h2
  exact ⟨_, a, a', rfl, h1, h3, h4⟩
def δ3I (g : Int → Int → Int → Int) : D1 := fun xs M Φ => on3 xs fun x y z => onI x fun i => onI y fun j => onI z fun l => Φ (.dat (.int (g i j l))) M
theorem FE (hc : X.calm = true) : QF X (.builtin "max") (fun xs H Q => ∃ i j l, xs = [.int i, .int j, .int l] ∧ Q (.int (max i (max j l))) H) := by
 intro pins s σ H xs us Q I r h
 obtain ⟨i, j, l, rfl, q⟩ := h
 obtain ⟨u, hu⟩ : ∃ u, us = u := ⟨us, rfl⟩
 cases r with
 | cons r1 r2 =>
  obtain ⟨u2, u3, rfl, r3, r4⟩ := vals2 r2
  obtain ⟨t1, rfl⟩ := r1
  obtain ⟨t2, rfl⟩ := r3
  obtain ⟨t3, rfl⟩ := r4
  refine max_three_ints (I.ok.hd hc) fun h' tk k => ⟨.int (max i (max j l)), H, I.kept k, ?_, q⟩
  by_cases c1 : j > i
  ·rw [if_pos c1]
   by_cases c2 : l > j
   ·rw [if_pos c2]; exact ⟨t3, by rw [show max i (max j l) = l by omega]⟩
   ·rw [if_neg c2]; exact ⟨t2, by rw [show max i (max j l) = j by omega]⟩
  ·rw [if_neg c1]
   by_cases c2 : l > i
   ·rw [if_pos c2]; exact ⟨t3, by rw [show max i (max j l) = l by omega]⟩
   ·rw [if_neg c2]; exact ⟨t1, by rw [show max i (max j l) = i by omega]⟩
theorem SY (hc : X.calm = true) : QC X (.builtin "max") (δ3I fun i j l => max i (max j l)) := by
 refine ⟨_, FE hc, fun vs H xs M Φ Q r rv h k => ?_⟩
 replace h := Qn h
 obtain ⟨x, y, z, rfl, h⟩ := h
 replace h := ZM h
 obtain ⟨i, rfl, h⟩ := h
 replace h := ZM h
 obtain ⟨j, rfl, h⟩ := h
 replace h := ZM h
 obtain ⟨l, rfl, q⟩ := h
 obtain ⟨v, u, w', rfl, h1, h2, h3⟩ := Paired.three rv
 exact ⟨i, j, l, by rw [Qd.int h1, Qd.int h2, Qd.int h3], k.dat r Step.refl (Dt.int _) q⟩
def Dp : D1 := fun xs M Φ => on1 xs fun x => onQ x M fun ds => Φ (.dat (.tuple ds)) M
theorem VD : QC X (.type "tuple") Dp := by
 refine ⟨_, XZ, fun vs H xs M Φ Q r rv h k => ?_⟩
 replace h := ZS h
 obtain ⟨x, rfl, h⟩ := h
 replace h := G5 h
 obtain ⟨ds, hx, q⟩ := h
 have hx' : x = .dat (.list ds) ∨ x = .dat (.tuple ds) ∨ ∃ l, x = .own l ∧ M l = some (.lst ds) := by
  rcases hx with a | a | a
  ·exact .inr (.inl a)
  ·exact .inl a
  ·exact .inr (.inr a)
 rcases hx' with rfl | rfl | ⟨l, rfl, hm⟩
 ·obtain ⟨v, rfl, h1⟩ := Paired.one rv
  obtain ⟨p, ys, rfl, g1, g2⟩ := Qd.lst h1
  exact ⟨p, ys, rfl, .inl ⟨g1.sq, fun l hl => k.dat (r.new hl) (Step.new hl) (Dt.Wf r hl g2) q⟩⟩
 ·obtain ⟨v, rfl, h1⟩ := Paired.one rv
  obtain ⟨p, ys, rfl, g1, g2⟩ := Qd.tup h1
  exact ⟨p, ys, rfl, .inr ⟨g1.sq, k.dat r Step.refl (Dt.tup g1 g2) q⟩⟩
 ·obtain ⟨v, rfl, h1⟩ := Paired.one rv
  cases (show v = .ref l from h1)
  obtain ⟨ws, g1, g2⟩ := r.ls l _ hm
  exact ⟨l, ws, rfl, .inl ⟨SqL.of g1, fun l hl => k.dat (r.new hl) (Step.new hl) (Dt.Wf r hl g2) q⟩⟩
theorem OD (hu : X.A.units + 66 < cLine) : OpR X (compareOp .In) (fun x y H Q => ∃ M d ds, Dt X.K M H x d ∧ (Dt X.K M H y (.list ds) ∨ Dt X.K M H y (.tuple ds)) ∧ d.canLay0 = true ∧ PyData.canLayAll0 ds = true ∧ d.depth ≤ 64 ∧ Q (.bl (ds.any fun e => PyData.eqv e d)) H) := by
 intro pins s σ H x y v u Q I rx ry h
 obtain ⟨M, d, ds, h1, h2, c1, c2, hdp, q⟩ := h
 obtain ⟨as, ra, _⟩ := h1.reads I rx
 rcases h2 with h2 | h2
 ·obtain ⟨bs, rb, _⟩ := h2.reads I ry
  exact PySem.SeqAt.in_list_reads rb ra c2 c1 (by have := Nat.min_le_right (PyData.depthAll ds) d.depth; omega) ⟨.bl _, H, I, rfl, q⟩
 ·obtain ⟨bs, rb, _⟩ := h2.reads I ry
  exact PySem.SeqAt.in_tuple_reads rb ra c2 c1 (by have := Nat.min_le_right (PyData.depthAll ds) d.depth; omega) ⟨.bl _, H, I, rfl, q⟩
def onW (x : DV) (P : List PyData → Prop) : Prop := match x with | .dat (.tuple ds) => P ds | .dat (.list ds) => P ds | _ => False
theorem Zac {x : DV} {P : List PyData → Prop} (h : onW x P) : ∃ ds, (x = .dat (.list ds) ∨ x = .dat (.tuple ds)) ∧ P ds := by
 unfold onW at h
 split at h
 ·exact ⟨_, .inr rfl, h⟩
 ·exact ⟨_, .inl rfl, h⟩
 ·exact h.elim
noncomputable def okIn (d : PyData) (ds : List PyData) : Bool := d.canLay0 && PyData.canLayAll0 ds && Nat.ble d.depth 64
theorem UY {d : PyData} {ds : List PyData} (h : okIn d ds = true) : d.canLay0 = true ∧ PyData.canLayAll0 ds = true ∧ d.depth ≤ 64 := by
 unfold okIn at h
 simp only [Bool.and_eq_true] at h
 exact ⟨h.1.1, h.1.2, Nat.le_of_ble_eq_true h.2⟩
def δIn : D2 := fun x y M Φ => onD x fun d => onW y fun ds => okIn d ds = true ∧ Φ (.dat (.bool (ds.any fun e => PyData.eqv e d))) M
theorem Zbi {k : Nat} (hr : Ji k X.A) : OpD X (compareOp .In) δIn :=
 ⟨_, OD (by have := hr.un; omega), fun v u H x y M Φ Q r rv ru h k => by
  obtain ⟨d, e1, h⟩ := QK h
  obtain ⟨ds, e2, ho, q⟩ := Zac h
  obtain ⟨c1, c2, hdp⟩ := UY ho
  subst e1
  refine ⟨M, d, ds, rv, ?_, c1, c2, hdp, k.dat r Step.refl (Dt.bl _) q⟩
  rcases e2 with rfl | rfl
  ·exact .inl ru
  ·exact .inr ru⟩
def ER (to te : DTE) : DTE := fun Δ M Φ => to Δ M fun x M1 => onO x fun l => JC (M1 l) fun _ => te Δ M1 fun y M2 => onO y fun b => JC (M2 l) fun ds => JC (M2 b) fun es => b ≠ l ∧ ds.length + es.length ≤ sizeLine ∧ Φ (.dat .none) (J5 (Zv M2 l (.lst (ds ++ es))) b)
theorem YV {o e : Expr} {to te : DTE} {apos cpos : Pos} (ho : DE X o to) (he : DE X e te) (hbase : autoParam (attributeBase o "extend" X.env (eval o X.env) = eval o X.env) zz3._auto_1)
  (hfew : ((backTo cpos (starEach [e] X.env)).all (fun x => !x.1) && (backToKw cpos (keywordEach [] X.env)).all (fun x => x.1.isSome)
   && decide ([e].length + ([] : List Keyword).length + (if ([] : List Keyword).isEmpty then 0 else 1) < 30)) = true := by rfl)
  (hline : autoParam ((apos.endLine == cpos.line) = true) zz3._auto_1) (hs : autoParam (starEach [e] X.env = (false, eval e X.env) :: starEach [] X.env) zz3._auto_1) (hplain : autoParam ((backTo cpos (starEach [] X.env)).any (·.1) = false) zz3._auto_1) :
  DE X (.Call (.Attribute o "extend" apos) [e] [] cpos) (ER to te) := by
 obtain ⟨t1, p1, q1⟩ := ho
 obtain ⟨t2, p2, q2⟩ := he
 refine ⟨_, Pb PySem.F.plainAttrs_list PySem.F.slot_list_extend PySem.F.type_list_extend C9 p1 (JA p2 Xc hs) hbase hfew hline hs hplain, fun σ H Δ M Φ Q r e h k => ?_⟩
 refine q1 σ H Δ M _ _ r e h fun v H1 x M1 r1 st rv hx => ?_
 replace hx := ZU hx
 obtain ⟨l, rfl, hx⟩ := hx
 replace hx := Qx hx
 obtain ⟨oo, ho, hx⟩ := hx
 cases (show v = .ref l from rv)
 have ty : tyV X.K "list" (.ref l) H1 := by
  obtain ⟨vs, g1, _⟩ := r1.ls l oo ho
  exact .inl ⟨rfl, vs, SqL.of g1⟩
 refine ⟨ty, q2 σ H1 Δ M1 _ _ r1 (e.step st) hx fun w H2 y M2 r2 st2 rw2 hy => ?_⟩
 replace hy := ZU hy
 obtain ⟨b, rfl, hy⟩ := hy
 replace hy := Qx hy
 obtain ⟨ds, hm, hy⟩ := hy
 replace hy := Qx hy
 obtain ⟨es, hb, hne, hz, hy⟩ := hy
 cases (show w = .ref b from rw2)
 obtain ⟨vs, g1, g2⟩ := r2.ls l ds hm
 obtain ⟨ws, g3, g4⟩ := r2.ls b es hb
 have st3 : Step M2 H2 (Zv M2 l (.lst (ds ++ es))) (upd H2 l (.lst (vs ++ ws))) := Step.VL hm
 refine ⟨l, b, vs, ws, rfl, rfl, g1, g3, by rw [g2.length, g4.length]; exact hz, ?_⟩
 exact k.dat (r2.VM st3 (g2.append g4)).frz (st.trans (st2.trans (st3.trans Step.frz))) Dt.non hy
theorem BD {tg a b : Expr} {body : List Stmt} {g : DTG} {tb : DTS} {pos : Pos} {ta : DTA} {p p2 : Pos} (hg0 : Gl X "range") (hm : X.mg "range" = none) (ha : DA X [a, b] ta) (hg : DG X tg g) (hb : DSs X body tb) (hp : PassesOwn (model X.prog X.w) X.A X.env X.xe) (hc : X.calm = true)
  (hs : autoParam (starEach [a, b] X.env = [(false, eval a X.env), (false, eval b X.env)]) zz3._auto_1) (hs' : autoParam (starEach [b] X.env = [(false, eval b X.env)]) zz3._auto_1) (hs2 : autoParam (∀ x, foldedSetIterable (.Call (.Name "range" p) [a, b] [] p2) X.env x = pure x) zz2._auto_1) :
  DS X (.For tg (.Call (.Name "range" p) [a, b] [] p2) body [] pos) (Oj ta g tb) := by
 obtain ⟨t1, p1, q1⟩ := ha
 obtain ⟨t2, p2, q2⟩ := hg
 obtain ⟨t3, p3, q3⟩ := hb
 refine ⟨_, We hp hc (Fp hg0 hm p1 hs hs') p2 p3 hs2, fun σ H Δ M D E r e h k => ?_⟩
 refine q1 σ H Δ M _ _ r e h fun vs H1 xs M1 r1 st rv hx => ?_
 replace hx := ZL hx
 obtain ⟨xx, yy, rfl, hx⟩ := hx
 replace hx := ZM hx
 obtain ⟨i, rfl, hx⟩ := hx
 replace hx := ZM hx
 obtain ⟨j, rfl, ⟨⟨a1, a2⟩, a3, a4⟩, hx⟩ := hx
 have h1 : -(2 ^ 62) ≤ i ∧ i < 2 ^ 62 ∧ -(2 ^ 62) ≤ j ∧ j < 2 ^ 62 := ⟨a1, a2, a3, a4⟩
 obtain ⟨v, u, rfl, hv, hu⟩ := Paired.two rv
 exact ⟨i, j, by rw [Qd.int hv, Qd.int hu], h1, O6 q2 q3 r1 (e.step st) hx (k.step st)⟩
def Zgi (te : DTE) (tl th : DTO) : DTE := fun Δ M Φ => te Δ M fun x M1 => tl Δ M1 fun l M2 => th Δ M2 fun u M3 => onL x fun ds => Φ (.dat (.list (cutD ds l u))) M3
noncomputable def Yg (scope sc : Scope) : List (Str × NameKind) := scope.names.map fun (n, k) => if (k == .free && sc.kind == .function && sc.names.lookup n == some .cell) then (n, .cell) else (n, k)
noncomputable def Ph (sc : Scope) (XN : List Str) (scope : Scope) (N : List Str) (ix : List (Option Nat)) (j : Nat) : Bool :=
 match N[j]?, ix[j]? with
 | some x, some (some i) => decide (XN[i]? = some x) && (decide ((x, NameKind.free) ∈ scope.names) && decide ((Yg scope sc).lookup x = some .cell))
 | _, _ => true
theorem Zy {sc : Scope} {XN : List Str} {scope : Scope} {N : List Str} {ix : List (Option Nat)} (hsc : X.env.scope = sc) (hN : X.N = XN)
  (h : scope.kind = .function ∧ (∀ y ∈ scope.names, y.2 ≠ .cell) ∧ (∀ y ∈ scope.names, y.2 = .local → scope.names.lookup y.1 = some .local) ∧ (∀ y ∈ scope.names, y.2 = .free → sc.names.lookup y.1 = some .cell) ∧ N.length = ix.length ∧
   ∀ j ∈ List.range N.length, Ph sc XN scope N ix j = true) : JL X scope N ix := by
 obtain ⟨h1, h2, h3, h4, h5, h6⟩ := h
 subst hsc hN
 refine ⟨h1, h2, h3, h4, h5, fun j x i hx hi => ?_⟩
 have hj : j < N.length := (List.getElem?_eq_some_iff.mp hx).1
 have q := h6 j (List.mem_range.mpr hj)
 unfold Ph at q
 rw [hx, hi] at q
 simp only [Bool.and_eq_true, decide_eq_true_eq] at q
 exact ⟨q.1, q.2.1, q.2.2⟩
end
end DL
namespace DL
open PySem PySem.Spec PyProof.Rows L2
theorem Fw {M : Mp} {p b : Addr} {o o2 o3 : OO} (h : Zv M p o b = none) : J5 (Zv (Zv (Zv M p o) b o2) p o3) b = Zv M p o3 := by
 have hne : b ≠ p := fun e => by rw [e, Zn] at h; cases h
 rw [Zp hne] at h
 funext c
 unfold J5 Zv
 by_cases h1 : c = b
 ·rw [if_pos h1, if_neg (by rw [h1]; exact hne), h1, h]
 ·rw [if_neg h1]
  by_cases h2 : c = p
  ·rw [if_pos h2, if_pos h2]
  ·rw [if_neg h2, if_neg h1, if_neg h2, if_neg h2]
theorem fresh_ne {M : Mp} {p b : Addr} {o : OO} (h : Zv M p o b = none) : b ≠ p := fun e => by rw [e, Zn] at h; cases h
theorem take_snoc {α β : Type} {l : List α} {i : Nat} {a : α} (f : α → β) (h : l[i]? = some a) : (l.take i).map f ++ [f a] = (l.take (i + 1)).map f := by
 rw [List.take_add_one, h, List.map_append]
 rfl
theorem WR {α β : Type} {l : List α} {i : Nat} {a : α} (f : α → List β) (h : l[i]? = some a) : (l.take i).flatMap f ++ f a = (l.take (i + 1)).flatMap f := by
 rw [List.take_add_one, h, List.flatMap_append]
 simp
theorem ZF {α β : Type} {l : List α} {f : α → β} {i : Nat} {b : β} (h : (l.map f)[i]? = some b) : ∃ a, l[i]? = some a ∧ f a = b := by
 rw [List.getElem?_map] at h
 cases q : l[i]? with
 | none => rw [q] at h; cases h
 | some a => rw [q] at h; exact ⟨a, rfl, by simpa using h⟩
theorem V4 {α β : Type} (f : α → List β) (n : Nat) : ∀ l : List α, (∀ a ∈ l, (f a).length ≤ n) → (l.flatMap f).length ≤ l.length * n
 | [], _ => by simp
 | a :: l, h => by
  have h1 := h a List.mem_cons_self
  have h2 := V4 f n l fun b hb => h b (List.mem_cons_of_mem _ hb)
  rw [List.flatMap_cons, List.length_append, List.length_cons, Nat.succ_mul]
  omega
def gc (Φ : DK) : DK := fun x M => ∃ ps : List Addr, Φ x (ps.foldl J5 M)
theorem ZbK {K : PySem.W.Frag} {M : Mp} {H : Hp} {Φ : DK} {Q : VK} (k : Rch K M H Φ Q) {v : V} {H' : Hp} {x : DV} : ∀ (ps : List Addr) (M' : Mp), ZK K M' H' → Step M H M' H' → Qd K M' H' v x → Φ x (ps.foldl J5 M') → Q v H'
 | [], M', r, st, rv, f => k v H' x M' r st rv f
 | p :: ps, M', r, st, rv, f => ZbK k ps (J5 M' p) r.frz (st.trans Step.frz) (rv.step Step.frz) f
theorem N2 {K : PySem.W.Frag} {M : Mp} {H : Hp} {Φ : DK} {Q : VK} (k : Rch K M H Φ Q) : Rch K M H (gc Φ) Q := fun _ _ _ M' r st rv ⟨ps, f⟩ => ZbK k ps M' r st rv f
theorem okG {P : Program} {w : World} {K : PySem.W.Frag} {mg : Str → Option Value} {base : Heap} {x qual : Str} {st : Stmt} {f : Addr} {fd : FuncData} {N ps : List Str} {k : Nat} {S : DSp} (F : Fun K x qual st f fd) (Sc : Zt N ps (Zf st)) (len : ∀ xs M Φ, S xs M Φ → xs.length = ps.length)
  (hbody : ∀ (cdv : Value) (A : Around) (outer : List Env) (s : Shared) (H : Hp) (E : XK), Ji k (A.deeper (envOfC qual (Zf st) s.heap.objs.size f cdv)) →
   ∃ τ, DSs (Ob CX0 P w K mg base N qual (Zf st) f cdv A outer s H E).nox (Zq st) τ ∧ ∀ xs M Φ, S xs M Φ → τ { nx := fun _ M' => gc Φ (.dat .none) M', rt := gc Φ } (VI N xs) M) : ZT P w K mg base CX0 (k + 1) f fd ps (lift K S) := by
 refine F.ok Sc (fun vs H Q E h => ?_) fun cdv A outer s H vs Q E hr h => ?_
 ·obtain ⟨xs, M, Φ, _, rv, hs, _⟩ := h
  rw [Paired.length rv]
  exact len xs M Φ hs
 ·obtain ⟨xs, M, Φ, r, rv, hs, kk⟩ := h
  obtain ⟨τ, ⟨t, p, q⟩, hτ⟩ := hbody cdv A outer s H E hr
  refine ⟨t, p, q (start N vs) H (VI N xs) M _ _ r (QJ.start rv) (hτ xs M Φ hs) ⟨fun σ' H' Δ' M' r' st' e' hn => ?_, N2 kk, fun _ _ _ _ _ _ _ h => h.elim, fun _ _ _ _ _ _ _ h => h.elim⟩⟩
  exact (N2 kk).dat r' st' Dt.non hn
theorem Hr {Φ : DK} {x : DV} {M : Mp} {p : Addr} {o : OO} (hp : M p = none) (h : Φ x M) : gc Φ x (Zv M p o) := ⟨[p], by
 show Φ x (J5 (Zv M p o) p)
 rw [Q3 hp]; exact h⟩
theorem ZeL {Φ : DK} {x : DV} {M : Mp} (h : Φ x M) : gc Φ x M := ⟨[], h⟩
theorem BW {n k : Nat} (h : n < 2 ^ k) (hk : 0 < k) : n.log2 < k := by
 by_cases h0 : n = 0
 ·subst h0; simpa using hk
 ·exact (Nat.log2_lt h0).mpr h
def Mid (i : Int) : Prop := -(10 ^ 70) ≤ i ∧ i ≤ 10 ^ 70
theorem Mid.show {i : Int} (h : Mid i) : (PyData.int i).showable = true := by
 have h1 : i.natAbs.log2 < 240 := BW (by unfold Mid at h; omega) (by decide)
 simp only [PyData.showable, decide_eq_true_eq]
 omega
end DL
namespace DL
open PySem PySem.Spec PyProof.Rows L2
section
variable {X : Cx}
def ZbN : D1 := fun xs M Φ => ∃ ns : List Int, Jy xs M ns ∧ Φ (.dat (.int ns.sum)) M
theorem YS : ∀ {bs : List Bool} {us : List Value}, Vals (bs.map V.bl) us → ∀ (i : Nat) (v : Value), us[i]? = some v → ∃ b, bs[i]? = some b ∧ v = .bool b
 | [], _, r, i, v, e => by rw [List.map_nil] at r; cases r; simp at e
 | b :: bs, _, r, i, v, e => by
  rw [List.map_cons] at r
  cases r with
  | cons r1 r2 =>
   cases i with
   | zero =>
    simp at e
    subst e
    exact ⟨b, rfl, r1⟩
   | succ i => simpa using YS r2 i v (by simpa using e)
theorem Cd (bs : List Bool) : ((List.range bs.length).all fun i => (bs[i]?).getD true) = bs.all id := by
 rw [Bool.eq_iff_iff, List.all_eq_true, List.all_eq_true]
 constructor
 ·intro h b hb
  obtain ⟨i, hi, e⟩ := List.getElem_of_mem hb
  have q := h i (List.mem_range.mpr hi)
  rw [List.getElem?_eq_getElem hi, Option.getD_some, e] at q
  exact q
 ·intro h i hi
  have hi' := List.mem_range.mp hi
  rw [List.getElem?_eq_getElem hi', Option.getD_some]
  exact h _ (List.getElem_mem hi')
theorem CK (bs : List Bool) : ((List.range bs.length).any fun i => (bs[i]?).getD false) = bs.any id := by
 rw [Bool.eq_iff_iff, List.any_eq_true, List.any_eq_true]
 constructor
 ·rintro ⟨i, hi, e⟩
  have hi' := List.mem_range.mp hi
  rw [List.getElem?_eq_getElem hi', Option.getD_some] at e
  exact ⟨_, List.getElem_mem hi', e⟩
 ·rintro ⟨b, hb, e⟩
  obtain ⟨i, hi, rfl⟩ := List.getElem_of_mem hb
  exact ⟨i, List.mem_range.mpr hi, by rw [List.getElem?_eq_getElem hi, Option.getD_some]; exact e⟩
theorem K5 {s : Shared} {h' : Heap} {o : Obj} (hk : ∀ b x, b ∉ [s.heap.objs.size] → (s.heap.push o).get? b = some x → h'.get? b = some x) : ∀ b x, s.heap.get? b = some x → h'.get? b = some x :=
 fun b x e => hk b x (fun hm => absurd (Heap.lt_size e) (by rw [List.mem_singleton.mp hm]; exact Nat.lt_irrefl _)) (Heap.get?_push_of_some _ e)
theorem FT (hc : X.calm = true) : QF X (.builtin "all") (fun xs H Q => ∃ (p : Addr) (bs : List Bool), xs = [.ref p] ∧ SqL X.K H p (bs.map V.bl) ∧ Q (.bl (bs.all id)) H) := by
 intro pins s σ H xs us Q I r h
 obtain ⟨p, bs, rfl, hq, q⟩ := h
 obtain ⟨u, rfl, rx⟩ := vals1 r
 cases rx
 obtain ⟨its, rv, pl, hz⟩ := I.list hq
 have hl := pl.isList
 have hlt : p < s.heap.objs.size := by obtain ⟨_, e, _⟩ := hl; exact Heap.lt_size e
 refine call_all_walk (wpAny_pyIter_list hl ?_)
 refine ⟨s.heap.objs.size, [s.heap.objs.size, p], [s.heap.objs.size], its.toArray.size, _, _, fun i => (bs[i]?).getD true, rfl, Walks.list (A := X.A.in1) (I.ok.hd hc) _ p (Nat.ne_of_lt hlt) its.toArray,
  ⟨⟨_, Heap.get?_push_size _ rfl, rfl, rfl⟩, hl.push _⟩, fun i v s' Q' E' hP hQ => ?_, fun h' tk hk => ?_⟩
 ·obtain ⟨b, e, rfl⟩ := YS rv i v (by simpa using hP)
  simp only [e, Option.getD_some] at hQ
  exact wpAny_truthy_bool hQ
 ·have e : ((List.range its.toArray.size).all fun i => (bs[i]?).getD true) = bs.all id := by
   have hln := rv.length
   rw [List.length_map] at hln
   rw [List.size_toArray, ← hln]; exact Cd bs
  rw [e]
  exact ⟨.bl _, H, I.kept (K5 hk), rfl, q⟩
theorem FV (hc : X.calm = true) : QF X (.builtin "any") (fun xs H Q => ∃ (p : Addr) (bs : List Bool), xs = [.ref p] ∧ SqL X.K H p (bs.map V.bl) ∧ Q (.bl (bs.any id)) H) := by
 intro pins s σ H xs us Q I r h
 obtain ⟨p, bs, rfl, hq, q⟩ := h
 obtain ⟨u, rfl, rx⟩ := vals1 r
 cases rx
 obtain ⟨its, rv, pl, hz⟩ := I.list hq
 have hl := pl.isList
 have hlt : p < s.heap.objs.size := by obtain ⟨_, e, _⟩ := hl; exact Heap.lt_size e
 refine call_any_walk (wpAny_pyIter_list hl ?_)
 refine ⟨s.heap.objs.size, [s.heap.objs.size, p], [s.heap.objs.size], its.toArray.size, _, _, fun i => (bs[i]?).getD false, rfl, Walks.list (A := X.A.in1) (I.ok.hd hc) _ p (Nat.ne_of_lt hlt) its.toArray,
  ⟨⟨_, Heap.get?_push_size _ rfl, rfl, rfl⟩, hl.push _⟩, fun i v s' Q' E' hP hQ => ?_, fun h' tk hk => ?_⟩
 ·obtain ⟨b, e, rfl⟩ := YS rv i v (by simpa using hP)
  simp only [e, Option.getD_some] at hQ
  exact wpAny_truthy_bool hQ
 ·have e : ((List.range its.toArray.size).any fun i => (bs[i]?).getD false) = bs.any id := by
   have hln := rv.length
   rw [List.length_map] at hln
   rw [List.size_toArray, ← hln]; exact CK bs
  rw [e]
  exact ⟨.bl _, H, I.kept (K5 hk), rfl, q⟩
theorem J1 {K : PySem.W.Frag} {M : Mp} {H : Hp} : ∀ {vs : List V} {bs : List Bool}, Dts K M H vs (bs.map PyData.bool) → vs = bs.map V.bl
 | vs, [], h => by
  rw [List.map_nil] at h
  cases h
  rfl
 | vs, n :: ns, h => by
  rw [List.map_cons] at h
  cases h with
  | cons h1 h2 =>
   cases h1
   rw [J1 h2, List.map_cons]
def OA : D1 := fun xs M Φ => ∃ bs : List Bool, xs = [.dat (.list (bs.map PyData.bool))] ∧ Φ (.dat (.bool (bs.all id))) M
def Om : D1 := fun xs M Φ => ∃ bs : List Bool, xs = [.dat (.list (bs.map PyData.bool))] ∧ Φ (.dat (.bool (bs.any id))) M
theorem Zc4 (hc : X.calm = true) : QC X (.builtin "all") OA := by
 refine ⟨_, FT hc, fun vs H xs M Φ Q r rv h k => ?_⟩
 obtain ⟨bs, rfl, q⟩ := h
 obtain ⟨v, rfl, h1⟩ := Paired.one rv
 obtain ⟨p, ys, rfl, g1, g2⟩ := Qd.lst h1
 rw [J1 g2] at g1
 exact ⟨p, bs, rfl, g1.sq, k.dat r Step.refl (Dt.bl _) q⟩
theorem ZbL (hc : X.calm = true) : QC X (.builtin "any") Om := by
 refine ⟨_, FV hc, fun vs H xs M Φ Q r rv h k => ?_⟩
 obtain ⟨bs, rfl, q⟩ := h
 obtain ⟨v, rfl, h1⟩ := Paired.one rv
 obtain ⟨p, ys, rfl, g1, g2⟩ := Qd.lst h1
 rw [J1 g2] at g1
 exact ⟨p, bs, rfl, g1.sq, k.dat r Step.refl (Dt.bl _) q⟩
def O5 : D1 := fun xs M Φ => on1 xs fun x => onB x fun b => Φ (.dat (.int (if b = true then 1 else 0))) M
theorem Wd : QC X (.type "int") O5 := by
 refine ⟨_, Hm, fun vs H xs M Φ Q r rv h k => ?_⟩
 replace h := ZS h
 obtain ⟨x, rfl, h⟩ := h
 replace h := Xo h
 obtain ⟨b, rfl, q⟩ := h
 obtain ⟨v, rfl, h1⟩ := Paired.one rv
 cases (show v = .bl b from Qd.bool h1)
 exact .inr ⟨b, rfl, k.dat r Step.refl (Dt.int _) q⟩
def Zgh (i j : Nat) (ta : DTA) : DTS := fun D Δ M => ta Δ M fun xs M1 => on2 xs fun x y => D.nx ((Δ.set i (some x)).set j (some y)) M1
def W7 (x : DV) (M : Mp) (ds : List PyData) : Prop := x = .dat (.list ds) ∨ ∃ l, x = .own l ∧ M l = some (.lst ds)
theorem W7.sq {x : DV} {M : Mp} {H : Hp} {v : V} {ds : List PyData} (h : W7 x M ds) (r : ZK X.K M H) (rv : Qd X.K M H v x) : ∃ p ys, v = .ref p ∧ SqL X.K H p ys ∧ Dts X.K M H ys ds := by
 rcases h with rfl | ⟨l, rfl, hm⟩
 ·obtain ⟨p, ys, rfl, g1, g2⟩ := Qd.lst rv
  exact ⟨p, ys, rfl, g1.sq, g2⟩
 ·cases (show v = .ref l from rv)
  obtain ⟨ws, g1, g2⟩ := r.ls l _ hm
  exact ⟨l, ws, rfl, SqL.of g1, g2⟩
def N6 : D2 := fun x y M Φ => onK x M fun ds => onK y M fun es => ds.length + es.length ≤ sizeLine ∧ Φ (.dat (.list (ds ++ es))) M
theorem GF : OpD X (binaryOp .Add) N6 := by
 refine ⟨_, Nw, fun v u H x y M Φ Q r rv ru h k => ?_⟩
 replace h := QV h
 obtain ⟨ds, hx, h⟩ := h
 replace h := QV h
 obtain ⟨es, hy, hz, q⟩ := h
 replace hx : W7 x M ds := hx
 replace hy : W7 y M es := hy
 obtain ⟨a, xs, rfl, h1, h2⟩ := hx.sq r rv
 obtain ⟨b, ys, rfl, h3, h4⟩ := hy.sq r ru
 exact ⟨a, b, xs, ys, rfl, rfl, h1, h3, by rw [h2.length, h4.length]; exact hz, fun p hp => k.dat (r.new hp) (Step.new hp) (Dt.Jl r hp (h2.append h4)) q⟩
def ZfU (te : DTE) (tl th : DTO) : DTE := fun Δ M Φ => te Δ M fun x M1 => tl Δ M1 fun l M2 => th Δ M2 fun u M3 => onK x M3 fun ds => Φ (.dat (.list (cutD ds l u))) M3
theorem Vo {e : Expr} {te : DTE} {lo hi : Option Expr} {tl th : DTO} {p2 pos : Pos} (he : DE X e te) (hl : DO X lo tl) (hu : DO X hi th) : DE X (.Subscript e (.Slice lo hi none p2) pos) (ZfU te tl th) := by
 obtain ⟨t1, p1, q1⟩ := he
 obtain ⟨t2, p2, q2⟩ := hl
 obtain ⟨t3, p3, q3⟩ := hu
 refine ⟨_, BA Sr p1 p2 p3, fun σ H Δ M Φ Q r e h k => ?_⟩
 refine q1 σ H Δ M _ _ r e h fun v H1 x M1 r1 st rv hx => ?_
 refine q2 σ H1 Δ M1 _ _ r1 (e.step st) hx fun l H2 M2 r2 st2 hl => ?_
 refine q3 σ H2 Δ M2 _ _ r2 (e.step (st.trans st2)) hl fun u H3 M3 r3 st3 hu => ?_
 replace hu := QV hu
 obtain ⟨ds, hd, hu⟩ := hu
 replace hd : W7 x M3 ds := hd
 obtain ⟨a, xs, rfl, h1, h2⟩ := hd.sq r3 (rv.step (st2.trans st3))
 refine ⟨a, xs, rfl, h1, fun p hp => ?_⟩
 exact k.dat (r3.new hp) ((st.trans (st2.trans st3)).trans (Step.new hp)) (Dt.Jl r3 hp (h2.cut l u)) hu
noncomputable def Zhm (lo : Int) (n : Nat) : List V := (List.range n).map fun (i : Nat) => V.int (lo + (i : Int))
def Pa (ta : DTA) : DTE := fun Δ M Φ => ta Δ M fun xs M1 => on2 xs fun x y => onI x fun i => onI y fun j => (InR i ∧ InR j) ∧ (j - i).toNat ≤ 16777216 ∧ Φ (.dat (.list (XJ i (j - i).toNat))) M1
def Zgf (i : Nat) (te : DTE) (f : Int → Int → Int) : DTS := fun D Δ M => onV Δ[i]? fun z => onI z fun a => te Δ M fun x M1 => onI x fun b => D.nx (Δ.set i (some (.dat (.int (f a b))))) M1
end
end DL
namespace DL
open PySem PySem.Spec PyProof.Rows L2
def Zee (h : Heap) (v : Value) (q : Int × Int) : Prop := ∃ a o n t u, v = .ref a ∧ h.get? a = some o ∧ o.cls = .type "tuple" ∧ o.data = .seq #[.int q.1 t, .int q.2 u] n
theorem Zee.keep {h h' : Heap} {v : Value} {q : Int × Int} (p : Zee h v q) (k : ∀ b o, h.get? b = some o → h'.get? b = some o) : Zee h' v q := by
 obtain ⟨a, o, n, t, u, e, g, c, d⟩ := p
 exact ⟨a, o, n, t, u, e, k _ _ g, c, d⟩
noncomputable def ltP (p q : Int × Int) : Bool := if p.1 = q.1 then decide (p.2 < q.2) else decide (p.1 < q.1)
section
variable {prog : Program} {w : World} {A : Around} {E : Value → Shared → Prop} {s : Shared}
end
section
variable {prog : Program} {w : World} {A : Around} {R : Result → Shared → Prop} {I : Addr} {fp wr : List Addr} {n : Nat} {P : Nat → Value → Prop} {St : Nat → Heap → Prop}
def Zgq (prog : Program) (w : World) (A : Around) (h0 : Heap) (P : Nat → Value → Prop) (bt : Nat → Nat → Bool) : Prop :=
 ∀ i j x y (s : Shared) (Q : Value → Shared → Prop) (E : Value → Shared → Prop), (∀ b o, h0.get? b = some o → s.heap.get? b = some o) → P i x → P j y → Q (.bool (bt i j)) s → wpAny (model prog w) A (richCompare .Lt x y) Q E s
end
section
variable {prog : Program} {w : World} {A : Around} {E : Value → Shared → Prop} {s : Shared}
end
section
variable {X : Cx}
def ZcE (i j : Int) : Prop := 0 < j ∧ j.natAbs.log2 < 9000
theorem MM : OpR X (binaryOp .FloorDiv) (rI ZcE fun i j => .int (i / j)) := opI fun i j _ _ _ _ _ hc q => by
 have h1 : (0 : Int) < j := hc.1
 exact floordiv_int (by omega) (by rw [Int.fdiv_eq_ediv_of_nonneg i (by omega)]; exact q) (.inl (PyProof.noPylong_of_log2 hc.2))
theorem L3 : OpD X (binaryOp .FloorDiv) (δI ZcE fun i j => .int (i / j)) := ZaP MM
noncomputable def prD (q : Int × Int) : PyData := .tuple [.int q.1, .int q.2]
def Za1 : D1 := fun xs M Φ => ∃ qs : List (Int × Int), xs = [.dat (.list (qs.map prD))] ∧ 0 < qs.length ∧ ∀ q ∈ qs, (∀ r ∈ qs, ltP r q = false) → Φ (.dat (prD q)) M
end
end DL
namespace DL
open PySem PySem.Spec PyProof.Rows L2
noncomputable def Zdn {α : Type} [DecidableEq α] (ks : List α) (k : α) : Bool := decide (k ∈ ks)
noncomputable def ZfG {α : Type} [DecidableEq α] (ks : List α) (k : α) : List α := if k ∈ ks then ks else ks ++ [k]
section
variable {X : Cx}
def SE : DTE := fun _ M Φ => ∀ p, M p = none → Φ (.own p) (Zv M p (.dct []))
noncomputable def kP (i j : Int) : List Key := [.inl i, .inl j]
def Zdx (td : DTE) (ta : DTA) (tv : DTE) : DTS := fun D Δ M => tv Δ M fun x M1 => td Δ M1 fun y M2 => ta Δ M2 fun zs M3 => onD x fun _ => onO y fun l => on2 zs fun p q => onI p fun i => onI q fun j => SX (M3 l) fun ks => ks.length < sizeLine ∧ D.nx Δ (Zv M3 l (.dct (ZfG ks (kP i j))))
def onP (x : DV) (P : Int → Int → Prop) : Prop := match x with | .dat (.tuple [.int i, .int j]) => P i j | _ => False
theorem JU {x : DV} {P : Int → Int → Prop} (h : onP x P) : ∃ i j, x = .dat (.tuple [.int i, .int j]) ∧ P i j := by
 unfold onP at h
 split at h
 ·exact ⟨_, _, rfl, h⟩
 ·exact h.elim
def Zea : D2 := fun x y M Φ => onP x fun i j => onO y fun l => SX (M l) fun ks => Φ (.dat (.bool (Zdn ks (kP i j)))) M
end
section
variable {prog : Program} {w : World} {A : Around} {E : Value → Shared → Prop} {s : Shared}
end
section
variable {X : Cx}
def Zes (te ts : DTE) : DTE := fun Δ M Φ => te Δ M fun x M1 => ts Δ M1 fun y M2 => onT x fun ds => onI y fun i => i = -1 ∧ Φ (.dat (.tuple ds.reverse)) M2
theorem Dts.reverse {K : PySem.W.Frag} {M : Mp} {H : Hp} : ∀ {vs : List V} {ds : List PyData}, Dts K M H vs ds → Dts K M H vs.reverse ds.reverse
 | _, _, .nil => .nil
 | _, _, .cons h1 h2 => by
  rw [List.reverse_cons, List.reverse_cons]
  exact (Dts.reverse h2).append (.cons h1 .nil)
end
section
variable {prog : Program} {w : World} {A : Around} {E : Value → Shared → Prop} {s : Shared}
end
section
variable {X : Cx}
def Zgz (K : PySem.W.Frag) : V → Option Int → Option Int → Hp → VK → Prop := fun x lo hi H Q => ∃ a xs, x = .ref a ∧ SqT K H a xs ∧ (HT.sIx xs.length 0 lo = 0 ∧ HT.sIx xs.length xs.length hi = xs.length) ∧ Q (.ref a) H
def ZdN (te : DTE) (tl th : DTO) : DTE := fun Δ M Φ => te Δ M fun x M1 => tl Δ M1 fun l M2 => th Δ M2 fun u M3 => onT x fun ds => Φ (.dat (.tuple (cutD ds l u))) M3
end
section
variable {X : Cx}
def Zdm (x : DV) (M : Mp) (Φ : DK) : Prop := match x with | .dat (.list ds) => Φ (.dat (.list ds)) M | .own l => JC (M l) fun ds => Φ (.dat (.list ds)) (J5 M l) | _ => False
def Zec (t : DTE) : DTE := fun Δ M Φ => t Δ M fun x M1 => Zdm x M1 Φ
end
end DL
namespace DL
open PySem PySem.Spec PyProof.Rows L2
def Zgt (src : Y2) : Y2 := fun Δ M Ψ => ∃ Ψ', src Δ M Ψ' ∧ ∀ ds M1, Ψ' ds M1 → Ψ ds M1
def Q1 (g : DTG) (tc : DTT) (te : DTE) (Δc : DSt) (fin : List PyData → Mp → Prop) : List PyData → List PyData → Mp → Prop
 | [], acc, M => fin acc M
 | d :: ds, acc, M => g (.dat d) Δc M fun Δ2 M2 => tc Δ2 M2 fun b M3 => if b = true then te Δ2 M3 fun y M4 => onD y fun e => Q1 g tc te Δc fin ds (acc ++ [e]) M4 else Q1 g tc te Δc fin ds acc M3
theorem FZ (g : DTG) (tc : DTT) (te : DTE) (Δc : DSt) (fin : List PyData → Mp → Prop) (acc : List PyData) (M : Mp) : Q1 g tc te Δc fin [] acc M = fin acc M := by rw [Q1]
theorem Ds (g : DTG) (tc : DTT) (te : DTE) (Δc : DSt) (fin : List PyData → Mp → Prop) (d : PyData) (ds acc : List PyData) (M : Mp) : Q1 g tc te Δc fin (d :: ds) acc M =
  g (.dat d) Δc M fun Δ2 M2 => tc Δ2 M2 fun b M3 => if b = true then te Δ2 M3 fun y M4 => onD y fun e => Q1 g tc te Δc fin ds (acc ++ [e]) M4 else Q1 g tc te Δc fin ds acc M3 := by rw [Q1]
def Zch (ow : Bool) (src : Y2) (ix : List (Option Nat)) (g : DTG) (tc : DTT) (te : DTE) : DTE := fun Δ M Φ => src Δ M fun ds M1 => ds.length ≤ sizeLine ∧ Q1 g tc te (W5 ix Δ) (W6 ow Φ) ds [] M1
section
variable {X : Cx}
end
def VR (g : DTG) (tb : DTS) (D : Qe) : List PyData → DSt → Mp → Prop
 | [], Δ, M => D.nx Δ M
 | d :: ds, Δ, M => g (.dat d) Δ M fun Δ2 M2 => tb { D with nx := VR g tb D ds, ct := VR g tb D ds, bk := D.nx } Δ2 M2
theorem Mo (g : DTG) (tb : DTS) (D : Qe) (Δ : DSt) (M : Mp) : VR g tb D [] Δ M = D.nx Δ M := by rw [VR]
theorem Ny (g : DTG) (tb : DTS) (D : Qe) (d : PyData) (ds : List PyData) (Δ : DSt) (M : Mp) : VR g tb D (d :: ds) Δ M = g (.dat d) Δ M fun Δ2 M2 => tb { D with nx := VR g tb D ds, ct := VR g tb D ds, bk := D.nx } Δ2 M2 := by rw [VR]
theorem G1 (lo : Int) (n : Nat) : XJ lo (n + 1) = .int lo :: XJ (lo + 1) n := by
 unfold XJ
 rw [List.range_succ_eq_map, List.map_cons, List.map_map]
 congr 1
 ·simp
 ·refine List.map_congr_left fun i _ => ?_
  show PyData.int _ = PyData.int _
  congr 1
  simp
  omega
theorem Zcd (lo : Int) : XJ lo 0 = [] := rfl
theorem NZ (lo : Int) : XJ lo 1 = [.int lo] := by rw [G1]; rfl
theorem OV (lo : Int) : XJ lo 2 = [.int lo, .int (lo + 1)] := by rw [G1, NZ]
theorem Og (lo : Int) : XJ lo 3 = [.int lo, .int (lo + 1), .int (lo + 1 + 1)] := by rw [G1, OV]
theorem ZaA (lo : Int) : XJ lo 4 = [.int lo, .int (lo + 1), .int (lo + 1 + 1), .int (lo + 1 + 1 + 1)] := by rw [G1, Og]
theorem LL {A B : DTS} {D : Qe} {Δ : DSt} {M : Mp} (h : ∀ R, R = B → Zdh A R D Δ M) : Zdh A B D Δ M := h B rfl
theorem S8 {l : List Int} {r : Int} (h0 : 0 ≤ r) (h1 : r < l.length) : ∃ w ∈ l, atI (l.map PyData.int) r = some (.int w) := by
 obtain ⟨d, e, hm⟩ := C0 (l := l.map PyData.int) h0 (by rw [List.length_map]; exact h1)
 obtain ⟨w, hw, rfl⟩ := List.mem_map.mp hm
 exact ⟨w, hw, e⟩
end DL
namespace DL
open PySem PySem.Spec PyProof.Rows L2
theorem UT  : ZD "int" .none = false := rfl
theorem UG (b : Bool) : ZD "int" (.bool b) = true := rfl
theorem CC (i : Int) : ZD "int" (.int i) = true := rfl
theorem CN (z : Str) : ZD "int" (.str z) = false := rfl
theorem GI (l : List PyData) : ZD "int" (.list l) = false := rfl
theorem Wn (l : List PyData) : ZD "int" (.tuple l) = false := rfl
theorem U8 (l : List (PyData × PyData)) : ZD "int" (.dict l) = false := rfl
theorem KP  : ZD "bool" .none = false := rfl
theorem KQ (b : Bool) : ZD "bool" (.bool b) = true := rfl
theorem Gj (i : Int) : ZD "bool" (.int i) = false := rfl
theorem U1 (z : Str) : ZD "bool" (.str z) = false := rfl
theorem KY (l : List PyData) : ZD "bool" (.list l) = false := rfl
theorem Ky (l : List PyData) : ZD "bool" (.tuple l) = false := rfl
theorem W0 (l : List (PyData × PyData)) : ZD "bool" (.dict l) = false := rfl
theorem X4  : ZD "tuple" .none = false := rfl
theorem Kz (b : Bool) : ZD "tuple" (.bool b) = false := rfl
theorem K4 (i : Int) : ZD "tuple" (.int i) = false := rfl
theorem Wv (z : Str) : ZD "tuple" (.str z) = false := rfl
theorem KG (l : List PyData) : ZD "tuple" (.list l) = false := rfl
theorem Y5 (l : List PyData) : ZD "tuple" (.tuple l) = true := rfl
theorem Kj (l : List (PyData × PyData)) : ZD "tuple" (.dict l) = false := rfl
theorem Wa  : ZD "list" .none = false := rfl
theorem K6 (b : Bool) : ZD "list" (.bool b) = false := rfl
theorem U4 (i : Int) : ZD "list" (.int i) = false := rfl
theorem U3 (z : Str) : ZD "list" (.str z) = false := rfl
theorem KR (l : List PyData) : ZD "list" (.list l) = true := rfl
theorem Kp (l : List PyData) : ZD "list" (.tuple l) = false := rfl
theorem WW (l : List (PyData × PyData)) : ZD "list" (.dict l) = false := rfl
theorem Ug  : ZD "str" .none = false := rfl
theorem Ub (b : Bool) : ZD "str" (.bool b) = false := rfl
theorem CL (i : Int) : ZD "str" (.int i) = false := rfl
theorem Cy (z : Str) : ZD "str" (.str z) = true := rfl
theorem U2 (l : List PyData) : ZD "str" (.list l) = false := rfl
theorem K3 (l : List PyData) : ZD "str" (.tuple l) = false := rfl
theorem GD (l : List (PyData × PyData)) : ZD "str" (.dict l) = false := rfl
theorem WI  : ZD "dict" .none = false := rfl
theorem Wz (b : Bool) : ZD "dict" (.bool b) = false := rfl
theorem UI (i : Int) : ZD "dict" (.int i) = false := rfl
theorem Uj (z : Str) : ZD "dict" (.str z) = false := rfl
theorem KU (l : List PyData) : ZD "dict" (.list l) = false := rfl
theorem Kh (l : List PyData) : ZD "dict" (.tuple l) = false := rfl
theorem K1 (l : List (PyData × PyData)) : ZD "dict" (.dict l) = true := rfl
theorem Zd5 (i j : Int) : (PyData.int i).eqv (.int j) = decide (i = j) := by
 simp only [PyData.eqv]
 first | rfl | exact Bool.beq_eq_decide_eq _ _ | (rw [Bool.eq_iff_iff]; simp)
theorem Tp (x y : Str) : (PyData.str x).eqv (.str y) = decide (x = y) := by
 simp only [PyData.eqv]
 first | rfl | (rw [Bool.eq_iff_iff]; simp)
theorem SN (x y : Bool) : (PyData.bool x).eqv (.bool y) = (x == y) := by
 simp only [PyData.eqv]
theorem Zej : PyData.none.eqv .none = true := by simp only [PyData.eqv]
theorem ZdC (x y : List PyData) : (PyData.tuple x).eqv (.tuple y) = PyData.eqvAll x y := by simp only [PyData.eqv]
theorem PX (x y : List PyData) : (PyData.list x).eqv (.list y) = PyData.eqvAll x y := by simp only [PyData.eqv]
theorem Fe : PyData.eqvAll [] [] = true := by simp only [PyData.eqvAll]
theorem Ms (x y : PyData) (xs ys : List PyData) : PyData.eqvAll (x :: xs) (y :: ys) = (x.eqv y && PyData.eqvAll xs ys) := by simp only [PyData.eqvAll]
theorem NY (x : PyData) (xs : List PyData) : PyData.eqvAll (x :: xs) [] = false := by simp only [PyData.eqvAll]
theorem Za8 (x : PyData) (xs : List PyData) : PyData.eqvAll [] (x :: xs) = false := by simp only [PyData.eqvAll]
end DL
namespace DL
open PySem PySem.Spec PyProof.Rows L2
section
variable {X : Cx} {pos : Pos}
def ZaH (tc : DTT) (tb : DTS) : DTS := fun D Δ M => ∃ J : Nat → DSt → Mp → Prop, (∃ m, J m Δ M) ∧ ∀ n Δ M, J n Δ M → tc Δ M fun b M1 =>
 if b = true then tb { D with nx := fun Δ' M' => ∃ m, m < n ∧ J m Δ' M', ct := fun Δ' M' => ∃ m, m < n ∧ J m Δ' M', bk := D.nx } Δ M1 else D.nx Δ M1
def ZgA (to : DTE) : DTE := fun Δ M Φ => to Δ M fun x M1 => onO x fun l => ∃ ds d, M1 l = some (.lst (ds ++ [d])) ∧ Φ (.dat d) (Zv M1 l (.lst ds))
noncomputable def isNone : PyData → Bool
 | .none => true
 | _ => false
theorem E1 {K : PySem.W.Frag} {M : Mp} {H : Hp} {v : V} {d : PyData} (h : Dt K M H v d) : decide (v = .non) = isNone d := by
 cases h <;> rfl
def onN (x : DV) (P : Prop) : Prop := match x with | .dat .none => P | _ => False
theorem Oe {x : DV} {P : Prop} (h : onN x P) : x = .dat .none ∧ P := by
 unfold onN at h
 split at h
 ·exact ⟨rfl, h⟩
 ·exact h.elim
def Sz (b : Bool) : D2 := fun x y M Φ => onD x fun d => onN y <| Φ (.dat (.bool (isNone d != b))) M
theorem O3 : OpD X (compareOp .Is) (Sz false) := by
 refine ⟨_, Zcj, fun v u H x y M Φ Q r rv ru h k => ?_⟩
 replace h := QK h
 obtain ⟨d, rfl, h⟩ := h
 replace h := Oe h
 obtain ⟨rfl, q⟩ := h
 cases (show Dt X.K M H u .none from ru)
 refine ⟨rfl, ?_⟩
 rw [E1 rv]
 rw [show isNone d = (isNone d != false) by cases isNone d <;> rfl]
 exact k.dat r Step.refl (Dt.bl _) q
theorem Rb : OpD X (compareOp .IsNot) (Sz true) := by
 refine ⟨_, Pp, fun v u H x y M Φ Q r rv ru h k => ?_⟩
 replace h := QK h
 obtain ⟨d, rfl, h⟩ := h
 replace h := Oe h
 obtain ⟨rfl, q⟩ := h
 cases (show Dt X.K M H u .none from ru)
 refine ⟨rfl, ?_⟩
 rw [E1 rv]
 rw [show (!isNone d) = (isNone d != true) by cases isNone d <;> rfl]
 exact k.dat r Step.refl (Dt.bl _) q
theorem isNone_none : isNone .none = true := rfl
theorem Gq (b : Bool) : isNone (.bool b) = false := rfl
theorem B0 (b : Int) : isNone (.int b) = false := rfl
theorem Co (b : Str) : isNone (.str b) = false := rfl
theorem Ut (b : List PyData) : isNone (.list b) = false := rfl
theorem KS (b : List PyData) : isNone (.tuple b) = false := rfl
theorem UW (b : List (PyData × PyData)) : isNone (.dict b) = false := rfl
noncomputable def Zhl (c : Bool) : PyData → Bool
 | .bool b => b == c
 | _ => false
theorem Ei (hu : X.A.units + 66 < cLine) : OpR X (compareOp .NotIn) (fun x y H Q => ∃ M d ds, Dt X.K M H x d ∧ (Dt X.K M H y (.list ds) ∨ Dt X.K M H y (.tuple ds)) ∧ d.canLay0 = true ∧ PyData.canLayAll0 ds = true ∧ d.depth ≤ 64 ∧ Q (.bl (!(ds.any fun e => PyData.eqv e d))) H) := by
 intro pins s σ H x y v u Q I rx ry h
 obtain ⟨M, d, ds, h1, h2, c1, c2, hdp, q⟩ := h
 obtain ⟨as, ra, _⟩ := h1.reads I rx
 rcases h2 with h2 | h2
 ·obtain ⟨bs, rb, _⟩ := h2.reads I ry
  exact PySem.SeqAt.notIn_list_reads rb ra c2 c1 (by have := Nat.min_le_right (PyData.depthAll ds) d.depth; omega) ⟨.bl _, H, I, rfl, q⟩
 ·obtain ⟨bs, rb, _⟩ := h2.reads I ry
  exact PySem.SeqAt.notIn_tuple_reads rb ra c2 c1 (by have := Nat.min_le_right (PyData.depthAll ds) d.depth; omega) ⟨.bl _, H, I, rfl, q⟩
def Rm : D2 := fun x y M Φ => onD x fun d => onW y fun ds => okIn d ds = true ∧ Φ (.dat (.bool (!(ds.any fun e => PyData.eqv e d)))) M
def NT : D2 := fun x y M Φ => onP x fun i j => onO y fun l => SX (M l) fun ks => Φ (.dat (.bool (!Zdn ks (kP i j)))) M
end
section
variable {prog : Program} {w : World} {A : Around} {E : Value → Shared → Prop} {s : Shared}
end
end DL
namespace DL
open PySem PySem.Spec PyProof.Rows L2
theorem NR (x : DV) (P : DV → Prop) : onV (some (some x)) P = P x := propext Iff.rfl
theorem NP (i : Int) (P : Int → Prop) : onI (.dat (.int i)) P = P i := propext Iff.rfl
theorem LF (i : Bool) (P : Bool → Prop) : onB (.dat (.bool i)) P = P i := propext Iff.rfl
theorem NV (i : Str) (P : Str → Prop) : onS (.dat (.str i)) P = P i := propext Iff.rfl
theorem Lp (i : List PyData) (P : List PyData → Prop) : onT (.dat (.tuple i)) P = P i := propext Iff.rfl
theorem Ll (i : List PyData) (P : List PyData → Prop) : onL (.dat (.list i)) P = P i := propext Iff.rfl
theorem Mu (i : PyData) (P : PyData → Prop) : onD (.dat i) P = P i := propext Iff.rfl
theorem Mh (i : Addr) (P : Addr → Prop) : onO (.own i) P = P i := propext Iff.rfl
theorem Fx (ds : List PyData) (P : List PyData → Prop) : JC (some (.lst ds)) P = P ds := propext Iff.rfl
theorem P1 (ds : List PyData) (M : Mp) (P : List PyData → Prop) : onQ (.dat (.tuple ds)) M P = P ds := propext Iff.rfl
theorem Sn (ds : List PyData) (M : Mp) (P : List PyData → Prop) : onQ (.dat (.list ds)) M P = P ds := propext Iff.rfl
theorem SW (l : Addr) (M : Mp) (P : List PyData → Prop) : onQ (.own l) M P = JC (M l) P := propext Iff.rfl
theorem O9 (ds : List PyData) (M : Mp) (P : List PyData → Prop) : onK (.dat (.list ds)) M P = P ds := propext Iff.rfl
theorem Sk (l : Addr) (M : Mp) (P : List PyData → Prop) : onK (.own l) M P = JC (M l) P := propext Iff.rfl
theorem MR (x : DV) (P : DV → Prop) : on1 [x] P = P x := propext Iff.rfl
theorem MZ (x y : DV) (P : DV → DV → Prop) : on2 [x, y] P = P x y := propext Iff.rfl
theorem Lx (x y z : DV) (P : DV → DV → DV → Prop) : on3 [x, y, z] P = P x y z := propext Iff.rfl
theorem NU (P : List PyData → Prop) : YY [] P = P [] := propext Iff.rfl
theorem LC (a0 : PyData) (P : List PyData → Prop) : YY [.dat a0] P = P [a0] := propext Iff.rfl
theorem LO (a0 a1 : PyData) (P : List PyData → Prop) : YY [.dat a0, .dat a1] P = P [a0, a1] := propext Iff.rfl
theorem NC (a0 a1 a2 : PyData) (P : List PyData → Prop) : YY [.dat a0, .dat a1, .dat a2] P = P [a0, a1, a2] := propext Iff.rfl
theorem Lm (a0 a1 a2 a3 : PyData) (P : List PyData → Prop) : YY [.dat a0, .dat a1, .dat a2, .dat a3] P = P [a0, a1, a2, a3] := propext Iff.rfl
theorem LQ (a0 a1 a2 a3 a4 : PyData) (P : List PyData → Prop) : YY [.dat a0, .dat a1, .dat a2, .dat a3, .dat a4] P = P [a0, a1, a2, a3, a4] := propext Iff.rfl
theorem NB (a0 a1 a2 a3 a4 a5 : PyData) (P : List PyData → Prop) : YY [.dat a0, .dat a1, .dat a2, .dat a3, .dat a4, .dat a5] P = P [a0, a1, a2, a3, a4, a5] := propext Iff.rfl
theorem LG (a0 a1 a2 a3 a4 a5 a6 a7 : PyData) (P : List PyData → Prop) : YY [.dat a0, .dat a1, .dat a2, .dat a3, .dat a4, .dat a5, .dat a6, .dat a7] P = P [a0, a1, a2, a3, a4, a5, a6, a7] := propext Iff.rfl
theorem ZaO (i : Nat) (Δ : DSt) (M : Mp) (Φ : DK) : Zfl i Δ M Φ = (onV Δ[i]? fun x => Φ x M) := propext Iff.rfl
theorem ZgD (d : PyData) (z0 : DSt) (M : Mp) (Φ : DK) : dC d z0 M Φ = (Φ (.dat d) M) := propext Iff.rfl
theorem ZdQ (n : String) (z0 : DSt) (M : Mp) (Φ : DK) : dTy n z0 M Φ = (Φ (.ty n) M) := propext Iff.rfl
theorem ZeQ (δ : D2) (ta tb : DTE) (Δ : DSt) (M : Mp) (Φ : DK) : dOp δ ta tb Δ M Φ = (ta Δ M fun x M1 => tb Δ M1 fun y M2 => δ x y M2 Φ) := propext Iff.rfl
theorem ZgG (t : DTE) (Δ : DSt) (M : Mp) (Φ : Bool → Mp → Prop) : dB t Δ M Φ = (t Δ M fun x M1 => onB x fun c => Φ c M1) := propext Iff.rfl
theorem NS (δ δ' : D2) (ta tb tc : DTE) (Δ : DSt) (M : Mp) (Φ : DK) : BI δ δ' ta tb tc Δ M Φ = (ta Δ M fun x M1 => tb Δ M1 fun y M2 => δ x y M2 fun z M3 => onB z fun k => (if k = true then tc Δ M3 fun w' M4 => δ' y w' M4 Φ else Φ (.dat (.bool false)) M3)) := propext Iff.rfl
theorem Zai (t u : DTT) (Δ : DSt) (M : Mp) (Φ : Bool → Mp → Prop) : ZeY t u Δ M Φ = (t Δ M fun c M1 => if c = true then u Δ M1 Φ else Φ false M1) := propext Iff.rfl
theorem ZdS (t u : DTT) (Δ : DSt) (M : Mp) (Φ : Bool → Mp → Prop) : dOr t u Δ M Φ = (t Δ M fun c M1 => if c = true then Φ true M1 else u Δ M1 Φ) := propext Iff.rfl
theorem Za2 (t : DTT) (Δ : DSt) (M : Mp) (Φ : Bool → Mp → Prop) : ZfL t Δ M Φ = (t Δ M fun c M1 => Φ (!c) M1) := propext Iff.rfl
theorem R9 (ta tb : DTE) (Δ : DSt) (M : Mp) (Φ : DK) : Zcy ta tb Δ M Φ = (ta Δ M fun x M1 => onB x fun c => if c = true then tb Δ M1 Φ else Φ (.dat (.bool false)) M1) := propext Iff.rfl
theorem ZbD (ta tb : DTE) (Δ : DSt) (M : Mp) (Φ : DK) : Zfo ta tb Δ M Φ = (ta Δ M fun x M1 => onB x fun c => if c = true then Φ (.dat (.bool true)) M1 else tb Δ M1 Φ) := propext Iff.rfl
theorem Tj (ta : DTE) (Δ : DSt) (M : Mp) (Φ : DK) : ZcY ta Δ M Φ = (ta Δ M fun x M1 => onB x fun c => Φ (.dat (.bool (!c))) M1) := propext Iff.rfl
theorem Zad (g : Int → Int) (ta : DTE) (Δ : DSt) (M : Mp) (Φ : DK) : ZfO g ta Δ M Φ = (ta Δ M fun x M1 => onI x fun i => Φ (.dat (.int (g i))) M1) := propext Iff.rfl
theorem ZdD (C : Int → Int → Prop) (g : Int → Int → PyData) (x : DV) (y : DV) (M : Mp) (Φ : DK) : δI C g x y M Φ = (onI x fun i => onI y fun j => C i j ∧ Φ (.dat (g i j)) M) := propext Iff.rfl
theorem ZaZ (g : Int → Int → PyData) (x : DV) (y : DV) (M : Mp) (Φ : DK) : δI0 g x y M Φ = (onI x fun i => onI y fun j => Φ (.dat (g i j)) M) := propext Iff.rfl
theorem ZbZ  (z0 : DSt) (M : Mp) (Φ : List DV → Mp → Prop) : Zfh z0 M Φ = (Φ [] M) := propext Iff.rfl
theorem Rf (ta : DTE) (tr : DTA) (Δ : DSt) (M : Mp) (Φ : List DV → Mp → Prop) : Zbj ta tr Δ M Φ = (ta Δ M fun x M1 => tr Δ M1 fun xs M2 => Φ (x :: xs) M2) := propext Iff.rfl
theorem Zay (t : DTA) (Δ : DSt) (M : Mp) (Φ : DK) : Zfg t Δ M Φ = (t Δ M fun xs M1 => YY xs fun ds => Φ (.dat (.tuple ds)) M1) := propext Iff.rfl
theorem ZbJ (t : DTA) (Δ : DSt) (M : Mp) (Φ : DK) : Zfu t Δ M Φ = (t Δ M fun xs M1 => YY xs fun ds => Φ (.dat (.list ds)) M1) := propext Iff.rfl
theorem SG (t : DTA) (Δ : DSt) (M : Mp) (Φ : DK) : Zbn t Δ M Φ = (t Δ M fun xs M1 => YY xs fun ds => ∀ p, M1 p = none → Φ (.own p) (Zv M1 p (.lst ds))) := propext Iff.rfl
theorem ZaF (t : DTE) (Δ : DSt) (M : Mp) (Φ : DK) : ZfA t Δ M Φ = (t Δ M fun x M1 => onO x fun l => JC (M1 l) fun ds => Φ (.dat (.list ds)) (J5 M1 l)) := propext Iff.rfl
theorem Mf (a : PyData) (l : List PyData) (P : PyData → Prop) : VN (a :: l) 0 P = P a := propext Iff.rfl
theorem NJ (a b : PyData) (l : List PyData) (P : PyData → Prop) : VN (a :: b :: l) 1 P = P b := propext Iff.rfl
theorem H0 (a b c : PyData) (l : List PyData) (P : PyData → Prop) : VN (a :: b :: c :: l) 2 P = P c := propext Iff.rfl
theorem NI (a b c d : PyData) (l : List PyData) (P : PyData → Prop) : VN (a :: b :: c :: d :: l) 3 P = P d := propext Iff.rfl
theorem ZaT  (x : DV) (y : DV) (M : Mp) (Φ : DK) : δIx x y M Φ = (onQ x M fun ds => onI y fun i => VN ds i fun d => Φ (.dat d) M) := propext Iff.rfl
theorem ZeM (δ : D1) (t : DTA) (Δ : DSt) (M : Mp) (Φ : DK) : dCB δ t Δ M Φ = (t Δ M fun xs M1 => δ xs M1 Φ) := propext Iff.rfl
theorem Pt  (xs : List DV) (M : Mp) (Φ : DK) : Zc1 xs M Φ = (on1 xs fun x => onQ x M fun ds => Φ (.dat (.int ds.length)) M) := propext Iff.rfl
theorem Tz  (xs : List DV) (M : Mp) (Φ : DK) : ZcI xs M Φ = (on1 xs fun x => onI x fun i => Φ (.dat (.int (if i < 0 then -i else i))) M) := propext Iff.rfl
theorem Zaa (g : Int → Int → Int) (xs : List DV) (M : Mp) (Φ : DK) : δ2I g xs M Φ = (on2 xs fun x y => onI x fun i => onI y fun j => Φ (.dat (.int (g i j))) M) := propext Iff.rfl
theorem B8  (xs : List DV) (M : Mp) (Φ : DK) : GY xs M Φ = (on1 xs fun x => onQ x M fun ds => Φ (.dat (.list ds)) M) := propext Iff.rfl
theorem LR  (xs : List DV) (M : Mp) (Φ : DK) : OQ xs M Φ = (on1 xs fun x => onD x fun d => Shw d ∧ Φ (.dat (.str d.shown)) M) := propext Iff.rfl
theorem CI (T : String) (d : PyData) (t : String) (M : Mp) (Φ : DK) : PZ T [.dat d, .ty t] M Φ = (t = T ∧ Φ (.dat (.bool (ZD T d))) M) := propext Iff.rfl
theorem L6 (i j : Int) (P : Bool → Prop) : eqD (.int i) (.int j) P = P (decide (i = j)) := propext Iff.rfl
theorem Lz (i j : Str) (P : Bool → Prop) : eqD (.str i) (.str j) P = P (decide (i = j)) := propext Iff.rfl
theorem LH (i j : Bool) (P : Bool → Prop) : eqD (.bool i) (.bool j) P = P (i == j) := propext Iff.rfl
theorem Zb4  (x : DV) (y : DV) (M : Mp) (Φ : DK) : δEq x y M Φ = (onD x fun d => onD y fun e => eqD d e fun b => Φ (.dat (.bool b)) M) := propext Iff.rfl
theorem Zaz  (x : DV) (y : DV) (M : Mp) (Φ : DK) : δNe x y M Φ = (onD x fun d => onD y fun e => eqD d e fun b => Φ (.dat (.bool (!b))) M) := propext Iff.rfl
theorem Tg  (x : DV) (y : DV) (M : Mp) (Φ : DK) : T9 x y M Φ = (onS x fun s => onS y fun t => Φ (.dat (.bool (!decide (s = t)))) M) := propext Iff.rfl
theorem EU  (z0 : DSt) (M : Mp) (Φ : Option Int → Mp → Prop) : E5 z0 M Φ = (Φ none M) := propext Iff.rfl
theorem SJ (t : DTE) (Δ : DSt) (M : Mp) (Φ : Option Int → Mp → Prop) : TV t Δ M Φ = (t Δ M fun x M1 => onI x fun i => Φ (some i) M1) := propext Iff.rfl
theorem Zan (te : DTE) (tl th : DTO) (Δ : DSt) (M : Mp) (Φ : DK) : ZfN te tl th Δ M Φ = (te Δ M fun x M1 => tl Δ M1 fun l M2 => th Δ M2 fun u M3 => onT x fun ds => ¬ (HT.sIx ds.length 0 l = 0 ∧ HT.sIx ds.length ds.length u = ds.length) ∧ Φ (.dat (.tuple (cutD ds l u))) M3) := propext Iff.rfl
theorem Pc  (D : Qe) (Δ : DSt) (M : Mp) : ZbI D Δ M = (D.nx Δ M) := propext Iff.rfl
theorem Za6 (t u : DTS) (D : Qe) (Δ : DSt) (M : Mp) : Zdh t u D Δ M = (t { D with nx := u D } Δ M) := propext Iff.rfl
theorem TF (te : DTE) (D : Qe) (Δ : DSt) (M : Mp) : Zbp te D Δ M = (te Δ M fun _ M1 => D.nx Δ M1) := propext Iff.rfl
theorem T4 (te : DTE) (D : Qe) (Δ : DSt) (M : Mp) : ZfB te D Δ M = (te Δ M D.rt) := propext Iff.rfl
theorem ZbF (c : DTT) (t u : DTS) (D : Qe) (Δ : DSt) (M : Mp) : Ze9 c t u D Δ M = (c Δ M fun b M1 => if b = true then t D Δ M1 else u D Δ M1) := propext Iff.rfl
theorem ZY (i : Nat) (x : DV) (Δ : DSt) (M : Mp) (Φ : DSt → Mp → Prop) : BH i x Δ M Φ = (Φ (Δ.set i (some x)) M) := propext Iff.rfl
theorem B5 (Δ : DSt) (M : Mp) (Φ : DSt → Mp → Prop) : TX [] Δ M Φ = Φ Δ M := propext Iff.rfl
theorem Ud (t : DTG) (u : HS) (x : DV) (r : List DV) (Δ : DSt) (M : Mp) (Φ : DSt → Mp → Prop) : N1 t u (x :: r) Δ M Φ = t x Δ M fun Δ' M' => u r Δ' M' Φ := propext Iff.rfl
theorem LB (P : List DV → Prop) : OZ 0 [] P = P [] := propext Iff.rfl
theorem Lh (n : Nat) (d : PyData) (r : List PyData) (P : List DV → Prop) : OZ (n + 1) (d :: r) P = OZ n r fun xs => P (.dat d :: xs) := propext Iff.rfl
theorem SF (n : Nat) (t : HS) (x : DV) (Δ : DSt) (M : Mp) (Φ : DSt → Mp → Prop) : Zby n t x Δ M Φ = (onT x fun ds => OZ n ds fun xs => t xs Δ M Φ) := propext Iff.rfl
theorem Tw (to ti : DTE) (x : DV) (Δ : DSt) (M : Mp) (Φ : DSt → Mp → Prop) : Zbw to ti x Δ M Φ = (to Δ M fun o M1 => ti Δ M1 fun i M2 => onO o fun l => onI i fun k => onD x fun d => JC (M2 l) fun ds => ∃ j, ixN ds.length k = some j ∧ Φ Δ (Zv M2 l (.lst (ds.set j d)))) := propext Iff.rfl
theorem Zc5 (te : DTE) (g : DTG) (D : Qe) (Δ : DSt) (M : Mp) : Zdj te g D Δ M = (te Δ M fun x M1 => g x Δ M1 D.nx) := propext Iff.rfl
theorem Ec (to te : DTE) (Δ : DSt) (M : Mp) (Φ : DK) : Eo to te Δ M Φ = (to Δ M fun x M1 => onO x fun l => JC (M1 l) fun _ => te Δ M1 fun y M2 => onD y fun d => JC (M2 l) fun ds => ds.length < sizeLine ∧ Φ (.dat .none) (Zv M2 l (.lst (ds ++ [d])))) := propext Iff.rfl
theorem TB (te : DTE) (g : DTG) (tb : DTS) (D : Qe) (Δ : DSt) (M : Mp) : Zb3 te g tb D Δ M = (te Δ M fun x M1 => onL x fun ds => B9 g tb D ds Δ M1) := propext Iff.rfl
theorem R4 (te : DTE) (g : DTG) (tb : DTS) (D : Qe) (Δ : DSt) (M : Mp) : Zda te g tb D Δ M = (te Δ M fun x M1 => onT x fun ds => B9 g tb D ds Δ M1) := propext Iff.rfl
theorem Lg (ta : DTA) (g : DTG) (tb : DTS) (D : Qe) (Δ : DSt) (M : Mp) : ON ta g tb D Δ M = (ta Δ M fun xs M1 => on1 xs fun x => onI x fun j => InR j ∧ WS g tb D 0 j.toNat Δ M1) := propext Iff.rfl
theorem MC (ta : DTA) (g : DTG) (tb : DTS) (D : Qe) (Δ : DSt) (M : Mp) : Oj ta g tb D Δ M = (ta Δ M fun xs M1 => on2 xs fun x y => onI x fun i => onI y fun j => (InR i ∧ InR j) ∧ WS g tb D i (j - i).toNat Δ M1) := propext Iff.rfl
theorem RP (S : DSp) (t : DTA) (Δ : DSt) (M : Mp) (Φ : DK) : Zbb S t Δ M Φ = (t Δ M fun xs M1 => S xs M1 Φ) := propext Iff.rfl
theorem FG (i : Str) (P : Key → Prop) : Vh (.dat (.str i)) P = P (.inr i) := propext Iff.rfl
theorem ZcU (te : DTE) (Δ : DSt) (M : Mp) (Ψ : List PyData → Mp → Prop) : Zfv te Δ M Ψ = (te Δ M fun x M1 => onL x fun ds => Ψ ds M1) := propext Iff.rfl
theorem Zbd (te : DTE) (Δ : DSt) (M : Mp) (Ψ : List PyData → Mp → Prop) : ZfJ te Δ M Ψ = (te Δ M fun x M1 => onT x fun ds => Ψ ds M1) := propext Iff.rfl
theorem RR (ta : DTA) (Δ : DSt) (M : Mp) (Ψ : List PyData → Mp → Prop) : Zbr ta Δ M Ψ = (ta Δ M fun xs M1 => on1 xs fun x => onI x fun j => InR j ∧ Ψ (XJ 0 j.toNat) M1) := propext Iff.rfl
theorem NA (Φ : DK) (acc : List PyData) (M : Mp) : W6 true Φ acc M = ∀ p, M p = none → Φ (.own p) (Zv M p (.lst acc)) := propext Iff.rfl
theorem La (Φ : DK) (acc : List PyData) (M : Mp) : W6 false Φ acc M = Φ (.dat (.list acc)) M := propext Iff.rfl
theorem R7 (ow : Bool) (src : Y2) (ix : List (Option Nat)) (g : DTG) (tc : DTT) (te : DTE) (Δ : DSt) (M : Mp) (Φ : DK) : Px ow src ix g tc te Δ M Φ = (src Δ M fun ds M1 => ds.length ≤ sizeLine ∧ ∃ J : Nat → List PyData → Mp → Prop, J 0 [] M1 ∧ (∀ i d acc M', ds[i]? = some d → J i acc M' → g (.dat d) (W5 ix Δ) M' fun Δ2 M2 => tc Δ2 M2 fun b M3 => if b = true then te Δ2 M3 fun y M4 => onD y fun e => J (i + 1) (acc ++ [e]) M4 else J (i + 1) acc M3) ∧ ∀ acc M', J ds.length acc M' → W6 ow Φ acc M') := propext Iff.rfl
theorem Zag  (z0 : DSt) (M : Mp) (Φ : Bool → Mp → Prop) : Zfd z0 M Φ = (Φ true M) := propext Iff.rfl
theorem Mv  (xs : List DV) (M : Mp) (Φ : DK) : OJ xs M Φ = (∃ ns : List Int, Jy xs M ns ∧ 0 < ns.length ∧ ∀ m ∈ ns, (∀ a ∈ ns, m ≤ a) → Φ (.dat (.int m)) M) := propext Iff.rfl
theorem ZbQ (g : Int → Int → Int → Int) (xs : List DV) (M : Mp) (Φ : DK) : δ3I g xs M Φ = (on3 xs fun x y z => onI x fun i => onI y fun j => onI z fun l => Φ (.dat (.int (g i j l))) M) := propext Iff.rfl
theorem Hw  (xs : List DV) (M : Mp) (Φ : DK) : Dp xs M Φ = (on1 xs fun x => onQ x M fun ds => Φ (.dat (.tuple ds)) M) := propext Iff.rfl
theorem PY (ds : List PyData) (P : List PyData → Prop) : onW (.dat (.list ds)) P = P ds := propext Iff.rfl
theorem ZaS  (x : DV) (y : DV) (M : Mp) (Φ : DK) : δIn x y M Φ = (onD x fun d => onW y fun ds => okIn d ds = true ∧ Φ (.dat (.bool (ds.any fun e => PyData.eqv e d))) M) := propext Iff.rfl
theorem Dq (to te : DTE) (Δ : DSt) (M : Mp) (Φ : DK) : ER to te Δ M Φ = (to Δ M fun x M1 => onO x fun l => JC (M1 l) fun _ => te Δ M1 fun y M2 => onO y fun b => JC (M2 l) fun ds => JC (M2 b) fun es => b ≠ l ∧ ds.length + es.length ≤ sizeLine ∧ Φ (.dat .none) (J5 (Zv M2 l (.lst (ds ++ es))) b)) := propext Iff.rfl
theorem Ng  (xs : List DV) (M : Mp) (Φ : DK) : OA xs M Φ = (∃ bs : List Bool, xs = [.dat (.list (bs.map PyData.bool))] ∧ Φ (.dat (.bool (bs.all id))) M) := propext Iff.rfl
theorem Mi  (xs : List DV) (M : Mp) (Φ : DK) : Om xs M Φ = (∃ bs : List Bool, xs = [.dat (.list (bs.map PyData.bool))] ∧ Φ (.dat (.bool (bs.any id))) M) := propext Iff.rfl
theorem NW  (xs : List DV) (M : Mp) (Φ : DK) : O5 xs M Φ = (on1 xs fun x => onB x fun b => Φ (.dat (.int (if b = true then 1 else 0))) M) := propext Iff.rfl
theorem Lq  (x : DV) (y : DV) (M : Mp) (Φ : DK) : N6 x y M Φ = (onK x M fun ds => onK y M fun es => ds.length + es.length ≤ sizeLine ∧ Φ (.dat (.list (ds ++ es))) M) := propext Iff.rfl
theorem ZcV (te : DTE) (tl th : DTO) (Δ : DSt) (M : Mp) (Φ : DK) : ZfU te tl th Δ M Φ = (te Δ M fun x M1 => tl Δ M1 fun l M2 => th Δ M2 fun u M3 => onK x M3 fun ds => Φ (.dat (.list (cutD ds l u))) M3) := propext Iff.rfl
theorem ND (i j : Int) (P : Int → Int → Prop) : onP (.dat (.tuple [.int i, .int j])) P = P i j := propext Iff.rfl
theorem MX (P : Prop) : onN (.dat .none) P = P := propext Iff.rfl
theorem PQ (b : Bool) (x : DV) (y : DV) (M : Mp) (Φ : DK) : Sz b x y M Φ = (onD x fun d => onN y <| Φ (.dat (.bool (isNone d != b))) M) := propext Iff.rfl
end DL
namespace DL
open PySem PySem.Spec PyProof.Rows L2
noncomputable def ZdF (x : Str) (lo hi : Option Int) : Str := ⟨((x.cps.toList.drop (HT.sIx x.length 0 lo)).take (HT.sIx x.length x.length hi - HT.sIx x.length 0 lo)).toArray⟩
section
variable {X : Cx} {a b : Expr} {ta tb : DTE} {pos : Pos}
def Zhv : V → Option Int → Option Int → Hp → VK → Prop := fun x lo hi H Q => ∃ z, x = .str z ∧ z.length ≤ sizeLine ∧ Q (.str (ZdF z lo hi)) H
def Zga (te : DTE) (tl th : DTO) : DTE := fun Δ M Φ => te Δ M fun x M1 => tl Δ M1 fun l M2 => th Δ M2 fun u M3 => onS x fun s => s.length ≤ sizeLine ∧ Φ (.dat (.str (ZdF s l u))) M3
def Zcs : D2 := fun x y M Φ => onS x fun s => onI y fun i => s.length ≤ sizeLine ∧ ∃ c, L2.atI s.cps.toList i = some c ∧ Φ (.dat (.str ⟨#[c]⟩)) M
theorem Bt (ha : DE X a ta) (hb : DE X b tb) (hs : autoParam (GG b) zz7._auto_1) : DE X (.Subscript a b pos) (dOp Zcs ta tb) := by
 obtain ⟨ta', pa, qa⟩ := ha
 obtain ⟨tb', pb, qb⟩ := hb
 refine ⟨_, Zao OS pa pb hs, Snd.opn qa qb fun v u H x y M Φ Q r rv ru h k => ?_⟩
 replace h := Jm h
 obtain ⟨s, rfl, h⟩ := h
 replace h := ZM h
 obtain ⟨i, rfl, hz, c, hc, q⟩ := h
 exact ⟨s, i, c, rv.str, ru.int, hz, hc, k.dat r Step.refl (Dt.str _) q⟩
def Zcm : D2 := fun x y M Φ => onS x fun s => onS y fun t => s.length + t.length ≤ sizeLine ∧ Φ (.dat (.str (s ++ t))) M
noncomputable def ZfH (s : Str) (n : Nat) : Str := ⟨((List.replicate n s.cps.toList).flatten).toArray⟩
def ZaN : D2 := fun x y M Φ => onS x fun s => onI y fun i => (1 ≤ i ∧ i ≤ 1000 ∧ s.length ≤ 1000) ∧ Φ (.dat (.str (ZfH s i.toNat))) M
def ZdA : D2 := fun x y M Φ => onS x fun s => onS y fun t => Φ (.dat (.bool (!decide (t.cps.toList < s.cps.toList)))) M
noncomputable def Its (x : Str) : It := ⟨fun i _ => i < x.length, fun i H y H' => H' = H ∧ ∃ c, x.cps[i]? = some c ∧ y = .str ⟨#[c]⟩, fun i _ => x.length ≤ i⟩
def Zhq (tl : TE) : TI := fun σ H R => tl σ H fun x H1 => ∃ z, x = .str z ∧ R (Its z) H1
noncomputable def Zdo (c : Nat) : PyData := .str ⟨#[c]⟩
def Zf3 (te : DTE) : Y2 := fun Δ M Ψ => te Δ M fun x M1 => onS x fun s => Ψ (s.cps.toList.map Zdo) M1
def ZeF : D1 := fun xs M Φ => on1 xs fun x => onS x fun s => s.length ≤ sizeLine ∧ Φ (.dat (.list (s.cps.toList.map Zdo))) M
def ZfE : D1 := fun xs M Φ => on1 xs fun x => onS x fun s => s.length ≤ sizeLine ∧ Φ (.dat (.tuple (s.cps.toList.map Zdo))) M
def rJoin (K : PySem.W.Frag) : V → List V → Hp → VK → Prop := fun x xs H Q => ∃ z p ss, x = .str z ∧ xs = [.ref p] ∧ SqL K H p (ss.map V.str) ∧ JoinOk z ss = true ∧ Q (.str (Txt.join z ss)) H
theorem FF : ∀ {ss : List Str} {us : List Value}, Vals (ss.map V.str) us → ∃ l : List (Str × Tok), us = strValues l ∧ l.map (·.1) = ss
 | [], _, r => by rw [List.map_nil] at r; cases r; exact ⟨[], rfl, rfl⟩
 | s :: ss, _, r => by
  rw [List.map_cons] at r
  cases r with
  | cons r1 r2 =>
   obtain ⟨t, rfl⟩ := r1
   obtain ⟨l, rfl, e⟩ := FF r2
   exact ⟨(s, t) :: l, rfl, by rw [List.map_cons, e]⟩
theorem SO : MtR X "str.join" (rJoin X.K) := by
 intro pins s σ H x xs v us Q I rx rs h
 obtain ⟨z, p, ss, rfl, rfl, hq, hj, q⟩ := h
 obtain ⟨t, rfl⟩ := rx
 obtain ⟨u, rfl, ru⟩ := vals1 rs
 cases ru
 obtain ⟨its, rv, pl, hz⟩ := I.list hq
 obtain ⟨l, rfl, hl⟩ := FF rv
 exact SC.join pl.isList hl hj fun t' k => ⟨.str _, H, I.tok _, ⟨_, rfl⟩, q⟩
def ZfQ (ds : List PyData) (P : List Str → Prop) : Prop := ∃ ss, ds = ss.map PyData.str ∧ P ss
def Za4 (to te : DTE) : DTE := fun Δ M Φ => to Δ M fun x M1 => onS x fun z => te Δ M1 fun y M2 => onK y M2 fun ds => ZfQ ds fun ss => JoinOk z ss = true ∧ Φ (.dat (.str (Txt.join z ss))) M2
theorem Xq {K : PySem.W.Frag} {M : Mp} {H : Hp} : ∀ {vs : List V} {ss : List Str}, Dts K M H vs (ss.map PyData.str) → vs = ss.map V.str
 | vs, [], h => by
  rw [List.map_nil] at h
  cases h
  rfl
 | vs, n :: ns, h => by
  rw [List.map_cons] at h
  cases h with
  | cons h1 h2 =>
   cases h1
   rw [Xq h2, List.map_cons]
theorem Fo {o e : Expr} {to te : DTE} {apos cpos : Pos} (ho : DE X o to) (he : DE X e te) (hbase : autoParam (attributeBase o "join" X.env (eval o X.env) = eval o X.env) zz3._auto_1)
  (hfew : ((backTo cpos (starEach [e] X.env)).all (fun x => !x.1) && (backToKw cpos (keywordEach [] X.env)).all (fun x => x.1.isSome)
   && decide ([e].length + ([] : List Keyword).length + (if ([] : List Keyword).isEmpty then 0 else 1) < 30)) = true := by rfl)
  (hline : autoParam ((apos.endLine == cpos.line) = true) zz3._auto_1) (hs : autoParam (starEach [e] X.env = (false, eval e X.env) :: starEach [] X.env) zz3._auto_1) (hplain : autoParam ((backTo cpos (starEach [] X.env)).any (·.1) = false) zz3._auto_1) :
  DE X (.Call (.Attribute o "join" apos) [e] [] cpos) (Za4 to te) := by
 obtain ⟨t1, p1, q1⟩ := ho
 obtain ⟨t2, p2, q2⟩ := he
 refine ⟨_, Pb PySem.F.plainAttrs_str PySem.F.slot_str_join PySem.F.type_str_join SO p1 (JA p2 Xc hs) hbase hfew hline hs hplain, fun σ H Δ M Φ Q r e h k => ?_⟩
 refine q1 σ H Δ M _ _ r e h fun v H1 x M1 r1 st rv hx => ?_
 replace hx := Jm hx
 obtain ⟨z, rfl, hx⟩ := hx
 cases rv.str
 refine ⟨rfl, q2 σ H1 Δ M1 _ _ r1 (e.step st) hx fun w H2 y M2 r2 st2 rw2 hy => ?_⟩
 replace hy := QV hy
 obtain ⟨ds, hd, ss, rfl, hj, hy⟩ := hy
 replace hd : W7 y M2 (ss.map PyData.str) := hd
 obtain ⟨a, xs, rfl, h1, h2⟩ := hd.sq r2 rw2
 cases Xq h2
 exact ⟨z, a, ss, rfl, rfl, h1, hj, k.dat r2 (st.trans st2) (Dt.str _) hy⟩
def rUp : V → List V → Hp → VK → Prop := fun x xs H Q => ∃ z, x = .str z ∧ xs = [] ∧ z.length ≤ 1000 ∧ Q (.str (Txt.upper z)) H
def Zfm (to : DTE) : DTE := fun Δ M Φ => to Δ M fun x M1 => onS x fun z => z.length ≤ 1000 ∧ Φ (.dat (.str (Txt.upper z))) M1
end
theorem Td (x y : DV) (M : Mp) (Φ : DK) : Zcs x y M Φ = (onS x fun s => onI y fun i => s.length ≤ sizeLine ∧ ∃ c, L2.atI s.cps.toList i = some c ∧ Φ (.dat (.str ⟨#[c]⟩)) M) := propext Iff.rfl
theorem PN (to te : DTE) (Δ : DSt) (M : Mp) (Φ : DK) : Za4 to te Δ M Φ = (to Δ M fun x M1 => onS x fun z => te Δ M1 fun y M2 => onK y M2 fun ds => ZfQ ds fun ss => JoinOk z ss = true ∧ Φ (.dat (.str (Txt.join z ss))) M2) := propext Iff.rfl
theorem str_len (s : Str) : s.cps.toList.length = s.length := by simp [Str.length]
theorem add_list (s t : Str) : (s ++ t).cps.toList = s.cps.toList ++ t.cps.toList := by rw [Str.cps_append, Array.toList_append]
theorem Oa {n d : Nat} {i : Int} (h0 : 0 ≤ i) : HT.sIx n d (some i) = min i.toNat n := by
 obtain ⟨k, rfl⟩ := Int.eq_ofNat_of_zero_le h0
 rw [HT.HE]
 rfl
theorem join_list : ∀ ss : List Str, (Txt.join (Str.ofString "") ss).cps.toList = (ss.map (·.cps.toList)).flatten := by
 have e0 : (Str.ofString "").cps.toList = [] := by decide +kernel
 have go : ∀ ss : List Str, (Str.join (Str.ofString "") ss).cps.toList = (ss.map (·.cps.toList)).flatten := fun ss => by
  induction ss with
  | nil => rfl
  | cons s ss ih =>
   cases ss with
   | nil => simp [Str.join]
   | cons t ss =>
    rw [Str.join, add_list, add_list, e0, ih]
    ·simp
    ·simp
 intro ss
 have : Txt.join (Str.ofString "") ss = Str.join (Str.ofString "") ss := by
  exact StrLaws.glued_eq_join _ _
 rw [this, go]
theorem Ro {sep : Str} {ss : List Str} {B : Nat} (hB : ∀ y ∈ ss, y.length ≤ B) (h : ss.length * B + ss.length * sep.length ≤ 16777216) : JoinOk sep ss = true := by
 unfold JoinOk
 rw [StrLaws.joinFits hB h]
 rfl
end DL
namespace DL
open PySem PySem.Spec PyProof.Rows L2 PySem.W
section
variable {n : Nat} {lt : Nat → Nat → Bool}
def KOk (n : Nat) (lt : Nat → Nat → Bool) {α : Type} : KasT α → (α → Prop) → Prop
 | .ret a, Q => Q a
 | .ask i j k, Q => i < n ∧ j < n ∧ i ≠ j ∧ KOk n lt (k (lt i j)) Q
theorem KOk.bind {α β : Type} {f : α → KasT β} {Q : β → Prop} : ∀ {t : KasT α}, KOk n lt t (fun a => KOk n lt (f a) Q) → KOk n lt (t.bind f) Q
 | .ret _, h => h
 | .ask i j k, h => ⟨h.1, h.2.1, h.2.2.1, KOk.bind (t := k (lt i j)) h.2.2.2⟩
theorem KOk.mono {α : Type} {Q Q' : α → Prop} (hq : ∀ a, Q a → Q' a) : ∀ {t : KasT α}, KOk n lt t Q → KOk n lt t Q'
 | .ret _, h => hq _ h
 | .ask i j k, h => ⟨h.1, h.2.1, h.2.2.1, KOk.mono hq (t := k (lt i j)) h.2.2.2⟩
theorem KOk.wp {cmp : Nat → Nat → (Bool → Shared → Prop) → Shared → Prop} {S : Shared → Prop} (hc : ∀ i j, i < n → j < n → i ≠ j → ∀ s, S s → ∀ C : Bool → Shared → Prop, (∀ s', S s' → C (lt i j) s') → cmp i j C s) {α : Type} {Q : α → Prop} {R : α → Shared → Prop}
  (hq : ∀ a s, Q a → S s → R a s) : ∀ {t : KasT α} {s : Shared}, KOk n lt t Q → S s → t.kasWp cmp R s
 | .ret _, _, h, hs => hq _ _ h hs
 | .ask i j k, s, h, hs => hc i j h.1 h.2.1 h.2.2.1 s hs _ fun s' hs' => KOk.wp hc hq (t := k (lt i j)) h.2.2.2 hs'
def Le (lt : Nat → Nat → Bool) (a b : Nat) : Prop := lt b a = false
structure Ord (lt : Nat → Nat → Bool) : Prop where
 asym : ∀ a b, lt a b = true → lt b a = false
 tran : ∀ a b c, Le lt a b → Le lt b c → Le lt a c
theorem Ord.refl (o : Ord lt) (a : Nat) : Le lt a a := by
 unfold Le
 cases h : lt a a with
 | false => rfl
 | true => have := o.asym a a h; rw [h] at this; cases this
noncomputable abbrev at' (p : Array Nat) (k : Nat) : Nat := p.getD k 0
def Up (lt : Nat → Nat → Bool) (p : Array Nat) (m : Nat) : Prop := ∀ i j, i ≤ j → j < m → Le lt (at' p i) (at' p j)
def Dn (lt : Nat → Nat → Bool) (p : Array Nat) (m : Nat) : Prop := ∀ i j, i ≤ j → j < m → Le lt (at' p j) (at' p i)
def Pm (n : Nat) (p : Array Nat) : Prop := p.Perm (List.range n).toArray
theorem Pm.size {p : Array Nat} (h : Pm n p) : p.size = n := by
 have := h.size_eq
 simpa using this
theorem Pm.below {p : Array Nat} (h : Pm n p) {k : Nat} (hk : k < n) : at' p k < n := by
 have hs : k < p.size := by rw [h.size]; exact hk
 have e : at' p k = p[k] := by simp [at', hs]
 have m1 : p[k] ∈ p := Array.getElem_mem hs
 have m2 := h.mem_iff.mp m1
 rw [e]
 simpa using m2
theorem Vi {α : Type} {l : List α} (nd : l.Nodup) {a b : Nat} (ha : a < l.length) (hb : b < l.length) (z : l[a] = l[b]) : a = b := by
 have pw := List.pairwise_iff_getElem.mp nd
 by_cases h1 : a < b
 ·exact absurd z (pw a b ha hb h1)
 ·by_cases h2 : b < a
  ·exact absurd z.symm (pw b a hb ha h2)
  ·omega
theorem Pm.inj {p : Array Nat} (h : Pm n p) {a b : Nat} (ha : a < n) (hb : b < n) (hn : a ≠ b) : at' p a ≠ at' p b := by
 have hs := h.size
 have e : ∀ k, (hk : k < n) → at' p k = p.toList[k]'(by simpa [hs] using hk) := fun k hk => by simp [at', hs, hk]
 have nd : p.toList.Nodup := by
  have := Array.perm_iff_toList_perm.mp h
  exact this.nodup_iff.mpr List.nodup_range
 rw [e a ha, e b hb]
 exact fun z => hn (Vi nd _ _ z)
theorem Pm.rev {p : Array Nat} (h : Pm n p) (i j : Nat) : Pm n (kas_rev p i j) := (mirror_perm _ _ _ _).trans h
theorem Pm.bub {p : Array Nat} (h : Pm n p) (i j : Nat) : Pm n (bubble p i j) := (bubble_perm _ _ _).trans h
theorem VP {p : Array Nat} {i j : Nat} (hj : j ≤ p.size) (k : Nat) : at' (kas_rev p i j) k = if i ≤ k ∧ k < j then at' p (i + j - 1 - k) else at' p k := by
 have hm := getElem?_mirror (i := i) hj ((j - i) / 2) (by omega) k
 have e : ∀ (q : Array Nat) (k : Nat), at' q k = q[k]?.getD 0 := fun q k => by simp [at', Array.getD_eq_getD_getElem?]
 rw [e, e, e]
 unfold kas_rev
 rw [hm]
 by_cases c : i ≤ k ∧ k < j
 ·rw [if_pos c]
  by_cases c2 : (i ≤ k ∧ k < i + (j - i) / 2) ∨ (j - (j - i) / 2 ≤ k ∧ k < j)
  ·rw [if_pos c2]
  ·rw [if_neg c2]
   congr 2
   omega
 ·rw [if_neg c, if_neg (by omega)]
theorem Ox {p : Array Nat} {k l : Nat} (hk : k < p.size) (hl : l ≤ k) (x : Nat) : at' (bubble p k (k - l)) x = if x = l then at' p k else if l < x ∧ x ≤ k then at' p (x - 1) else at' p x := by
 have hm := getElem?_bubble hk (k - l) (by omega) x
 have e : ∀ (q : Array Nat) (k : Nat), at' q k = q[k]?.getD 0 := fun q k => by simp [at', Array.getD_eq_getD_getElem?]
 rw [show k - (k - l) = l by omega] at hm
 rw [e, hm, e, e, e]
 split
 ·rfl
 ·split <;> rfl
theorem CT (o : Ord lt) {p : Array Nat} (hp : Pm n p) : ∀ (f m : Nat), 1 ≤ m → m + f ≤ n → Up lt p m → KOk n lt (kas_asc p f m) fun r => (m ≤ r ∧ r ≤ m + f) ∧ Up lt p r ∧ (r = m + f ∨ lt (at' p r) (at' p (r - 1)) = true)
 | 0, m, _, _, hu => ⟨⟨Nat.le_refl _, Nat.le_refl _⟩, hu, .inl rfl⟩
 | f + 1, m, h1, hf, hu => by
  unfold kas_asc
  refine ⟨hp.below (by omega), hp.below (by omega), hp.inj (by omega) (by omega) (by omega), ?_⟩
  cases hc : lt (p.getD m 0) (p.getD (m - 1) 0) with
  | true =>
   show KOk n lt (if true = true then _ else _) _
   rw [if_pos rfl]
   exact ⟨⟨Nat.le_refl _, by omega⟩, hu, .inr hc⟩
  | false =>
   show KOk n lt (if false = true then _ else _) _
   rw [if_neg Bool.false_ne_true]
   refine KOk.mono (fun r hr => ⟨⟨by omega, by omega⟩, hr.2.1, ?_⟩) (CT o hp f (m + 1) (by omega) (by omega) fun i j hij hj => ?_)
   ·rcases hr.2.2 with z | z
    ·exact .inl (by omega)
    ·exact .inr z
   ·by_cases c : j < m
    ·exact hu i j hij c
    ·have ej : j = m := by omega
     subst ej
     by_cases c2 : i = j
     ·subst c2
      exact o.refl _
     ·exact o.tran _ _ _ (hu i (j - 1) (by omega) (by omega)) hc
def Blk (lt : Nat → Nat → Bool) (p : Array Nat) (m q : Nat) : Prop := ∀ i j, m - (q + 1) ≤ i → i < m → m - (q + 1) ≤ j → j < m → Le lt (at' p i) (at' p j)
theorem DQ {p : Array Nat} (hp : p.size = n) {m q : Nat} (hm : m ≤ n) (hq : q + 1 ≤ m) (hd : Dn lt p m) (hb : Blk lt p m q) : Dn lt (kas_rev p (m - (q + 1)) m) m := by
 intro i j hij hj
 rw [VP (by omega), VP (by omega)]
 by_cases c1 : m - (q + 1) ≤ i ∧ i < m
 ·rw [if_pos c1, if_pos (by omega)]
  exact hb _ _ (by omega) (by omega) (by omega) (by omega)
 ·rw [if_neg c1]
  split
  ·exact hd _ _ (by omega) (by omega)
  ·exact hd _ _ hij hj
theorem Kd (o : Ord lt) : ∀ (f : Nat) (p : Array Nat) (m q : Nat), Pm n p → q + 1 ≤ m → m + f ≤ n → Dn lt p m → Blk lt p m q →
  KOk n lt (kas_desc f p m q) fun r => Pm n r.1 ∧ (m ≤ r.2.1 ∧ r.2.1 ≤ m + f) ∧ r.2.2 + 1 ≤ r.2.1 ∧ Dn lt r.1 r.2.1 ∧ Blk lt r.1 r.2.1 r.2.2
 | 0, p, m, q, hp, hq, hf, hd, hb => ⟨hp, ⟨Nat.le_refl _, Nat.le_refl _⟩, hq, hd, hb⟩
 | f + 1, p, m, q, hp, hq, hf, hd, hb => by
  have hs := hp.size
  unfold kas_desc
  refine ⟨hp.below (by omega), hp.below (by omega), hp.inj (by omega) (by omega) (by omega), ?_⟩
  have one : ∀ p' : Array Nat, Blk lt p' (m + 1) 0 := fun p' i j a1 a2 a3 a4 => by
   rw [show i = m by omega, show j = m by omega]
   exact o.refl _
  cases hc : lt (p.getD m 0) (p.getD (m - 1) 0) with
  | true =>
   show KOk n lt (if true = true then _ else _) _
   rw [if_pos rfl]
   have le0 : Le lt (at' p m) (at' p (m - 1)) := o.asym _ _ hc
   have grow : ∀ p' : Array Nat, Dn lt p' m → at' p' m = at' p m → Le lt (at' p (m - 1)) (at' p' (m - 1)) → Dn lt p' (m + 1) := fun p' d e l i j hij hj => by
    by_cases c : j < m
    ·exact d i j hij c
    ·have ej : j = m := by omega
     subst ej
     by_cases c2 : i = j
     ·subst c2
      exact o.refl _
     ·rw [e]
      exact o.tran _ _ _ (o.tran _ _ _ le0 l) (d i (j - 1) (by omega) (by omega))
   split
   ·refine KOk.mono (fun r hr => ⟨hr.1, by omega, hr.2.2⟩) (Kd o f _ (m + 1) 0 (hp.rev _ _) (by omega) (by omega) (grow _ (DQ hs (by omega) hq hd hb) ?_ ?_) (one _))
    ·rw [VP (by omega), if_neg (by omega)]
    ·rw [VP (by omega), if_pos (by omega)]
     exact hb _ _ (by omega) (by omega) (by omega) (by omega)
   ·exact KOk.mono (fun r hr => ⟨hr.1, by omega, hr.2.2⟩) (Kd o f _ (m + 1) 0 hp (by omega) (by omega) (grow _ hd rfl (o.refl _)) (one _))
  | false =>
   show KOk n lt (if false = true then _ else _) _
   rw [if_neg Bool.false_ne_true]
   refine ⟨hp.below (by omega), hp.below (by omega), hp.inj (by omega) (by omega) (by omega), ?_⟩
   cases hc2 : lt (p.getD (m - 1) 0) (p.getD m 0) with
   | true =>
    show KOk n lt (if true = true then _ else _) _
    rw [if_pos rfl]
    exact ⟨hp, ⟨Nat.le_refl _, Nat.le_add_right _ _⟩, hq, hd, hb⟩
   | false =>
    show KOk n lt (if false = true then _ else _) _
    rw [if_neg Bool.false_ne_true]
    have l1 : Le lt (at' p (m - 1)) (at' p m) := hc
    have l2 : Le lt (at' p m) (at' p (m - 1)) := hc2
    refine KOk.mono (fun r hr => ⟨hr.1, by omega, hr.2.2⟩) (Kd o f p (m + 1) (q + 1) hp (by omega) (by omega) (fun i j hij hj => ?_) fun i j a1 a2 a3 a4 => ?_)
    ·by_cases c : j < m
     ·exact hd i j hij c
     ·have ej : j = m := by omega
      subst ej
      by_cases c2 : i = j
      ·subst c2
       exact o.refl _
      ·exact o.tran _ _ _ l2 (hd i (j - 1) (by omega) (by omega))
    ·have to : ∀ i, m + 1 - (q + 1 + 1) ≤ i → i < m + 1 → Le lt (at' p i) (at' p (m - 1)) ∧ Le lt (at' p (m - 1)) (at' p i) := fun i b1 b2 => by
      by_cases c : i < m
      ·exact ⟨hb _ _ (by omega) (by omega) (by omega) (by omega), hb _ _ (by omega) (by omega) (by omega) (by omega)⟩
      ·rw [show i = m by omega]
       exact ⟨l2, l1⟩
     exact o.tran _ _ _ (to i a1 a2).1 (to j a3 a4).2
theorem Zae {p : Array Nat} (hp : p.size = n) {m : Nat} (hm : m ≤ n) (hd : Dn lt p m) : Up lt (kas_rev p 0 m) m := by
 intro i j hij hj
 rw [VP (by omega), VP (by omega), if_pos (by omega), if_pos (by omega)]
 exact hd _ _ (by omega) (by omega)
def Cnt (n : Nat) (lt : Nat → Nat → Bool) (r : Nat × Array Nat) : Prop := Pm n r.2 ∧ r.1 ≤ n ∧ Up lt r.2 r.1
theorem Fm (o : Ord lt) {p : Array Nat} (hp : Pm n p) {m : Nat} (h1 : 1 ≤ m) (hm : m ≤ n) (hd : Dn lt p m) : KOk n lt (kas_tail3 m n p) (Cnt n lt) := by
 unfold kas_tail3
 exact KOk.bind (KOk.mono (fun r hr => ⟨hp.rev _ _, by omega, hr.2.1⟩) (CT o (hp.rev 0 m) (n - m) m h1 (by omega) (Zae hp.size hm hd)))
theorem Yv (o : Ord lt) {p : Array Nat} (hp : Pm n p) {m : Nat} (hm : m + 1 ≤ n) (hd : Dn lt p (m + 1)) : KOk n lt (kas_descPart m n p) (Cnt n lt) := by
 unfold kas_descPart
 refine KOk.bind (KOk.mono (fun r hr => ?_) (Kd o (n - (m + 1)) p (m + 1) 0 hp (by omega) (by omega) hd fun i j a1 a2 a3 a4 => ?_))
 ·obtain ⟨h1, h2, h3, h4, h5⟩ := hr
  split
  ·exact Fm o (h1.rev _ _) (by omega) (by omega) (DQ h1.size (by omega) h3 h4 h5)
  ·exact Fm o h1 (by omega) (by omega) h4
 ·rw [show i = m by omega, show j = m by omega]
  exact o.refl _
theorem L9 (o : Ord lt) {p : Array Nat} (hp : Pm n p) (hn : 1 ≤ n) : KOk n lt (kas_count n p) (Cnt n lt) := by
 unfold kas_count
 refine KOk.bind (KOk.mono (fun m hm => ?_) (CT o hp (n - 1) 1 (Nat.le_refl _) (by omega) fun i j hij hj => ?_))
 ·obtain ⟨⟨h1, h2⟩, hu, hx⟩ := hm
  split
  ·exact ⟨hp, by omega, hu⟩
  ·rename_i hne
   have hne : m ≠ n := by simpa using hne
   have hlt : lt (at' p m) (at' p (m - 1)) = true := by
    rcases hx with z | z
    ·omega
    ·exact z
   have le0 : Le lt (at' p m) (at' p (m - 1)) := o.asym _ _ hlt
   split
   ·refine ⟨hp.below (by omega), hp.below (by omega), hp.inj (by omega) (by omega) (by omega), ?_⟩
    cases hc : lt (p.getD 0 0) (p.getD (m - 1) 0) with
    | true =>
     show KOk n lt (if true = true then _ else _) _
     rw [if_pos rfl]
     exact ⟨hp, by omega, hu⟩
    | false =>
     show KOk n lt (if false = true then _ else _) _
     rw [if_neg Bool.false_ne_true]
     have all : ∀ i j, i < m → j < m → Le lt (at' p i) (at' p j) := fun i j hi hj => o.tran _ _ _ (o.tran _ _ _ (hu i (m - 1) (by omega) (by omega)) hc) (hu 0 j (by omega) hj)
     refine Yv o (hp.rev _ _) (by omega) fun i j hij hj => ?_
     have hs := hp.size
     rw [VP (by omega), VP (by omega)]
     by_cases c : j < m
     ·rw [if_pos (by omega), if_pos (by omega)]
      exact all _ _ (by omega) (by omega)
     ·rw [if_neg (by omega), show j = m by omega]
      split
      ·exact o.tran _ _ _ le0 (all _ _ (by omega) (by omega))
      ·rw [show i = m by omega]
       exact o.refl _
   ·refine Yv o hp (by omega) fun i j hij hj => ?_
    have em : m = 1 := by omega
    subst em
    by_cases c : i = j
    ·subst c
     exact o.refl _
    ·rw [show i = 0 by omega, show j = 1 by omega]
     exact le0
 ·rw [show i = 0 by omega, show j = 0 by omega]
  exact o.refl _
theorem Xy (o : Ord lt) {p : Array Nat} (hp : Pm n p) {k : Nat} (hk : k < n) (hu : Up lt p k) : ∀ (f l r : Nat), l ≤ r → r ≤ k → r - l ≤ f → (∀ i, i < l → Le lt (at' p i) (at' p k)) → (∀ i, r ≤ i → i < k → Le lt (at' p k) (at' p i)) →
  KOk n lt (kas_place p k f l r) fun x => x ≤ k ∧ (∀ i, i < x → Le lt (at' p i) (at' p k)) ∧ ∀ i, x ≤ i → i < k → Le lt (at' p k) (at' p i)
 | 0, l, r, h1, h2, h3, hl, hr => ⟨by omega, hl, fun i a b => hr i (by omega) b⟩
 | f + 1, l, r, h1, h2, h3, hl, hr => by
  unfold kas_place
  split
  ·exact ⟨by omega, hl, fun i a b => hr i (by omega) b⟩
  ·refine ⟨hp.below hk, hp.below (by omega), hp.inj hk (by omega) (by omega), ?_⟩
   cases hc : lt (p.getD k 0) (p.getD ((l + r) / 2) 0) with
   | true =>
    show KOk n lt (if true = true then _ else _) _
    rw [if_pos rfl]
    exact Xy o hp hk hu f l _ (by omega) (by omega) (by omega) hl fun i a b => o.tran _ _ _ (o.asym _ _ hc) (hu _ _ a b)
   | false =>
    show KOk n lt (if false = true then _ else _) _
    rw [if_neg Bool.false_ne_true]
    exact Xy o hp hk hu f _ r (by omega) h2 (by omega) (fun i a => o.tran _ _ _ (hu i ((l + r) / 2) (by omega) (by omega)) hc) hr
theorem Oc (o : Ord lt) : ∀ (f : Nat) (p : Array Nat) (k : Nat), Pm n p → k + f = n → Up lt p k → KOk n lt (kas_bin f p k) fun q => Pm n q ∧ Up lt q n
 | 0, p, k, hp, hk, hu => ⟨hp, by rw [← hk]; exact hu⟩
 | f + 1, p, k, hp, hk, hu => by
  have hs := hp.size
  unfold kas_bin
  refine KOk.bind (KOk.mono (fun l hl => ?_) (Xy o hp (by omega) hu k 0 k (by omega) (Nat.le_refl _) (by omega) (fun i a => (by omega)) fun i a b => (by omega)))
  obtain ⟨l1, l2, l3⟩ := hl
  refine Oc o f _ (k + 1) (hp.bub _ _) (by omega) fun i j hij hj => ?_
  rw [Ox (by omega) l1, Ox (by omega) l1]
  by_cases ci : i = l
  ·rw [if_pos ci]
   by_cases cj : j = l
   ·rw [if_pos cj]
    exact o.refl _
   ·rw [if_neg cj, if_pos (by omega)]
    exact l3 _ (by omega) (by omega)
  ·rw [if_neg ci]
   by_cases cj : j = l
   ·rw [if_pos cj, if_neg (by omega)]
    exact l2 _ (by omega)
   ·rw [if_neg cj]
    split
    ·rw [if_pos (by omega)]
     exact hu _ _ (by omega) (by omega)
    ·split
     ·exact hu _ _ (by omega) (by omega)
     ·exact hu _ _ hij (by omega)
theorem Ss (o : Ord lt) (hn : 1 ≤ n) : KOk n lt (kas_sort n) fun q => Pm n q ∧ Up lt q n := by
 unfold kas_sort
 refine KOk.bind (KOk.mono (fun r hr => ?_) (L9 o (p := (List.range n).toArray) (Array.Perm.refl _) hn))
 obtain ⟨h1, h2, h3⟩ := hr
 split
 ·refine Oc o _ _ _ h1 (by omega) fun i j hij hj => ?_
  by_cases c : 1 ≤ r.1
  ·rw [show max r.1 1 = r.1 by omega] at hj
   exact h3 i j hij hj
  ·rw [show i = 0 by omega, show j = 0 by omega]
   exact o.refl _
 ·rw [show r.1 = n by omega] at h3
  exact ⟨h1, h3⟩
end
end DL
namespace DL
open PySem PySem.Spec PyProof.Rows L2 PySem.W
section
variable {prog : Program} {w : World} {A : Around} {E : Value → Shared → Prop} {s : Shared} {lt : Nat → Nat → Bool}
theorem ZcL {p : Array Nat} {m : Nat} (o : Ord lt) (h : m < 2) : Up lt p m := fun i j hij hj => by
 rw [show i = j by omega]
 exact o.refl _
noncomputable abbrev W4 (vs : List Value) (q : Array Nat) : Array Value := List.toArray (q.toList.map fun i => vs.getD i Value.none)
theorem Ej (vs : List Value) : W4 vs (List.range vs.length).toArray = vs.toArray := by
 apply Array.toList_inj.mp
 show (List.range vs.length).map (fun i => vs.getD i Value.none) = vs
 apply List.ext_getElem?
 intro i
 rw [List.getElem?_map]
 by_cases h : i < vs.length
 ·rw [List.getElem?_range h, List.getElem?_eq_getElem h]
  simp [h]
 ·rw [List.getElem?_eq_none (by simpa using h), List.getElem?_eq_none (by simpa using h)]
  rfl
theorem Ga {kd : SortKind} (o : Ord lt) {a : Addr} {vs : List Value} {c : Nat} {P : PySem.Fin → Shared → Prop} (gx : s.heap.get? a = some (seqObj "list" vs.toArray c)) (few : vs.length < 64)
  (kind : 2 ≤ vs.length → ∀ h1 : Heap, (∀ b u, b ≠ a → s.heap.get? b = some u → h1.get? b = some u) → ∀ R : SortKind → Shared → Prop, R kd { s with heap := h1 } → wpAny (model prog w) A (keyKind' vs.toArray) R E { s with heap := h1 })
  (ask : ∀ h1 : Heap, (∀ b u, b ≠ a → s.heap.get? b = some u → h1.get? b = some u) → ∀ i j, i < vs.length → j < vs.length → i ≠ j → ∀ C : Bool → Shared → Prop, C (lt i j) { s with heap := h1 } →
   wpAny (model prog w) A (keyLt' kd (vs.getD i Value.none) (vs.getD j Value.none)) C (fun _ _ => False) { s with heap := h1 })
  (fin : ∀ q, Pm vs.length q → Up lt q vs.length → P (.done (.ret .none)) { s with heap := sortedHeap s.heap a vs (W4 vs q) }) : wpAny (model prog w) A (Builtin.«list.sort» ⟨[.ref a], []⟩) P E s := by
 rw [list_sort_plain]
 have la : a < s.heap.objs.size := Heap.lt_size gx
 have line : vs.toArray.size ≤ sizeLine := by rw [List.size_toArray, sizeLine_eq]; omega
 obtain ⟨e1, g1⟩ : ∃ e1, (s.heap.update a (Obj.mapSeq fun _ => (#[] : Array Value))).get? a = some (seqObj "list" #[] e1) := ⟨_, get?_update_seq gx fun _ => #[]⟩
 have g6 : (((s.heap.update a (Obj.mapSeq fun _ => (#[] : Array Value))).push (seqObj "tuple" vs.toArray 0)).push (seqObj "list" #[] 0)).get? a = some (seqObj "list" #[] e1) := Heap.get?_push_of_some _ (Heap.get?_push_of_some _ g1)
 have keep : ∀ b u, b ≠ a → s.heap.get? b = some u → (((s.heap.update a (Obj.mapSeq fun _ => (#[] : Array Value))).push (seqObj "tuple" vs.toArray 0)).push (seqObj "list" #[] 0)).get? b = some u := fun b u hb e =>
  Heap.get?_push_of_some _ (Heap.get?_push_of_some _ (by rw [Heap.get?_update_ne _ _ _ _ hb]; exact e))
 refine wpAny_bind (listItems_at gx rfl (wpAny_bind (listUpdate_at gx rfl (wpAny_bind (seqEpoch_at g1 rfl (wpAny_bind (wpAny_newTuple (wpAny_bind (wpAny_newList (wpAny_holding ?_) (Nat.zero_le _))) (by simpa using line))))) line (Nat.zero_le _))))
 show wpAny (model prog w) A _ P E { s with heap := ((s.heap.update a (Obj.mapSeq fun _ => (#[] : Array Value))).push (seqObj "tuple" vs.toArray 0)).push (seqObj "list" #[] 0) }
 dsimp only
 have osz : ∀ q, Pm vs.length q → (W4 vs q).size ≤ sizeLine + 1 := fun q hq => by
  have := hq.size
  rw [List.size_toArray, List.length_map, Array.length_toList, sizeLine_eq]
  omega
 by_cases two : vs.toArray.size < 2
 ·have pm : Pm vs.length (List.range vs.length).toArray := Array.Perm.refl _
  have f := fin _ pm (ZcL o (by simpa using two))
  rw [Ej] at f
  have es : (vs.toArray.zip vs.toArray).map (·.2) = vs.toArray := by
   apply Array.toList_inj.mp
   rw [Array.toList_map, Array.toList_zip]
   exact List.map_snd_zip (Nat.le_refl _)
  rw [if_pos two, if_pos two]
  refine wpAny_bind (wpAny_pure (by
   rw [StateT.run_pure]
   refine wpAny_bind (wpAny_pure ?_)
   dsimp only
   refine wpAny_bind (seqEpoch_at g6 rfl (wpAny_bind (listUpdate_at g6 rfl ?_ (Nat.zero_le _) ?_)))
   ·simp only [bne_self_eq_false, Bool.false_eq_true, if_false]
    refine wpAny_pure ?_
    show P _ { s with heap := sortedHeap s.heap a vs ((vs.toArray.zip vs.toArray).map (·.2)) }
    rw [es]
    exact f
   ·show ((vs.toArray.zip vs.toArray).map (·.2)).size ≤ _
    rw [es]
    exact Nat.le_succ_of_le line))
 ·rw [if_neg two, if_neg two]
  have two' : 2 ≤ vs.length := by simpa using two
  refine wpAny_bind (kind two' _ keep _ ?_)
  refine wpAny_bind (wpAny_mono (kat_run (κ := kd) (Q := fun st' s' => ∃ p : Array Nat, Pm vs.length p ∧ Up lt p vs.length ∧ arrOf st' = p.map (kas_item (vs.toArray.zip vs.toArray)) ∧ failedOf st' = none ∧
    s' = { s with heap := ((s.heap.update a (Obj.mapSeq fun _ => (#[] : Array Value))).push (seqObj "tuple" vs.toArray 0)).push (seqObj "list" #[] 0) })
   (G := fun p s' => (Pm vs.length p ∧ Up lt p vs.length) ∧ s' = { s with heap := ((s.heap.update a (Obj.mapSeq fun _ => (#[] : Array Value))).push (seqObj "tuple" vs.toArray 0)).push (seqObj "list" #[] 0) })
   rfl two' few (fun p st' s' _ b c d => ⟨p, d.1.1, d.1.2, b, c, d.2⟩)
   (KOk.wp (S := fun s' => s' = { s with heap := ((s.heap.update a (Obj.mapSeq fun _ => (#[] : Array Value))).push (seqObj "tuple" vs.toArray 0)).push (seqObj "list" #[] 0) })
    (fun i j hi hj hn s' hs C hC => by rw [hs]; exact ask _ keep i j hi hj hn C (hC _ rfl)) (fun p s' h hs => ⟨h, hs⟩) (Ss o (by omega)) rfl)) ?_ fun _ _ z => z)
  rintro ⟨⟨⟩, st'⟩ s' ⟨p, pm, pu, har, hf, rfl⟩
  dsimp only
  have es : (arrOf st').map (·.2) = W4 vs p := kat_snds rfl har
  refine wpAny_bind (seqEpoch_at g6 rfl (wpAny_bind (listUpdate_at g6 rfl ?_ (Nat.zero_le _) ?_)))
  ·rw [hf]
   simp only [bne_self_eq_false, Bool.false_eq_true, if_false]
   refine wpAny_pure ?_
   show P _ { s with heap := sortedHeap s.heap a vs ((arrOf st').map (·.2)) }
   rw [es]
   exact fin p pm pu
  ·rw [es]
   exact osz p pm
theorem Kt {kd : SortKind} (o : Ord lt) {l : Addr} {vs : List Value} {Q : Value → Shared → Prop} (gl : s.heap.IsList l vs.toArray) (few : vs.length < 64)
  (kind : 2 ≤ vs.length → ∀ h1 : Heap, (∀ b u, s.heap.get? b = some u → h1.get? b = some u) → ∀ (E' : Value → Shared → Prop) (R : SortKind → Shared → Prop), R kd { s with heap := h1 } → wpAny (model prog w) A.in1.in1 (keyKind' vs.toArray) R E' { s with heap := h1 })
  (ask : ∀ h1 : Heap, (∀ b u, s.heap.get? b = some u → h1.get? b = some u) → ∀ i j, i < vs.length → j < vs.length → i ≠ j → ∀ C : Bool → Shared → Prop, C (lt i j) { s with heap := h1 } →
   wpAny (model prog w) A.in1.in1 (keyLt' kd (vs.getD i Value.none) (vs.getD j Value.none)) C (fun _ _ => False) { s with heap := h1 })
  (fin : ∀ q, Pm vs.length q → Up lt q vs.length → Q (.ref (s.heap.objs.size + 1)) { s with heap := sortedAll s.heap vs (W4 vs q) }) : wpAny (model prog w) A (call (.builtin "sorted") [.ref l]) Q E s := by
 have line : vs.length ≤ sizeLine := by rw [sizeLine_eq]; omega
 have hz : ((s.heap.push (seqObj "list" #[] 0)).update s.heap.objs.size (Obj.mapSeq (· ++ vs.toArray))).objs.size = s.heap.objs.size + 1 := (Heap.size_update _ _ _).trans (size_push' _ _)
 have g0 : (((s.heap.push (seqObj "list" #[] 0)).update s.heap.objs.size (Obj.mapSeq (· ++ vs.toArray))).push (seqObj "list" vs.toArray 0)).get? (s.heap.objs.size + 1) = some (seqObj "list" vs.toArray 0) := hz ▸ Heap.get?_push_size _ rfl
 have old : ∀ b u, s.heap.get? b = some u → b ≠ s.heap.objs.size + 1 ∧ (((s.heap.push (seqObj "list" #[] 0)).update s.heap.objs.size (Obj.mapSeq (· ++ vs.toArray))).push (seqObj "list" vs.toArray 0)).get? b = some u := fun b u e => by
  have hb := Heap.lt_size e
  refine ⟨Nat.ne_of_lt (Nat.lt_succ_of_lt hb), Heap.get?_push_of_some _ ?_⟩
  rw [Heap.get?_update_ne _ _ _ _ (Nat.ne_of_lt hb)]
  exact Heap.get?_push_of_some _ e
 refine Calls.call_function_entry kind_sorted plain_sorted entry_sorted (args_sorted1 _) ?_
 unfold Builtin.«sorted»
 refine wpAny_bind (m := checkCount "sorted" 1 1 _) (wpAny_pure (wpAny_bind (collect_list gl (wpAny_bind (wpAny_newList ?_ line)) line)))
 show wpAny _ _ _ _ _ { s with heap := ((s.heap.push (seqObj "list" #[] 0)).update s.heap.objs.size (Obj.mapSeq (· ++ vs.toArray))).push (seqObj "list" vs.toArray 0) }
 rw [hz]
 refine wpAny_bind (wpAny_holding (wpAny_call_entry slot_list_sort ⟨_, g0, rfl⟩ entry_list_sort ?_ (args_list_sort _)))
 refine Ga (kd := kd) (s := { s with heap := ((s.heap.push (seqObj "list" #[] 0)).update s.heap.objs.size (Obj.mapSeq (· ++ vs.toArray))).push (seqObj "list" vs.toArray 0) }) o g0 few (fun h2 h1 k R hR => ?_) (fun h1 k i j hi hj hn C hC => ?_) fun q pm pu => ⟨_, rfl, wpAny_pure ⟨_, rfl, fin q pm pu⟩⟩
 ·exact kind h2 h1 (fun b u e => k b u (old b u e).1 (old b u e).2) _ R hR
 ·exact ask h1 (fun b u e => k b u (old b u e).1 (old b u e).2) i j hi hj hn C hC
end
noncomputable def HP : PyData → Option Str
 | .tuple (.str s :: _) => some s
 | _ => none
theorem PD {d : PyData} {s : Str} (h : HP d = some s) : ∃ r, d = .tuple (.str s :: r) := by
 unfold HP at h
 split at h
 ·cases h
  exact ⟨_, rfl⟩
 ·cases h
noncomputable def ltK (ks : List Str) (i j : Nat) : Bool := decide ((ks.getD i Str.empty).cps.toList < (ks.getD j Str.empty).cps.toList)
theorem RQ (ks : List Str) : Ord (ltK ks) := by
 refine ⟨fun a b h => ?_, fun a b c h1 h2 => ?_⟩
 ·have h' := of_decide_eq_true h
  exact decide_eq_false fun z => absurd (List.lt_trans h' z) (List.lt_irrefl _)
 ·have h1' := of_decide_eq_false h1
  have h2' := of_decide_eq_false h2
  refine decide_eq_false fun z => ?_
  have a1 := List.not_lt.mp h1'
  have a2 := List.not_lt.mp h2'
  exact absurd z (List.not_lt.mpr (List.le_trans a1 a2))
section
variable {X : Cx}
def Za7 (K : PySem.W.Frag) : List V → Hp → VK → Prop := fun xs H Q => ∃ (p : Addr) (M : Mp) (vs : List V) (ds : List PyData) (ks : List Str), xs = [.ref p] ∧ SqL K H p vs ∧ Dts K M H vs ds ∧ ds.map HP = ks.map some ∧ ks.Nodup ∧ ds.length < 64 ∧
 ∀ q, Pm ds.length q → Up (ltK ks) q ds.length → ∀ l, H l = none → Q (.ref l) (upd H l (.lst (q.toList.map fun i => vs.getD i .non)))
theorem Wh : QF X (.builtin "sorted") (Za7 X.K) := by
 intro pins s σ H xs us Q I r h
 obtain ⟨p, M, vs, ds, ks, rfl, hq, hd, hk, nd, few, q⟩ := h
 obtain ⟨u, rfl, rx⟩ := vals1 r
 cases rx
 obtain ⟨its, rv, pl, _⟩ := I.list hq
 have n1 := rv.length
 have n2 := hd.length
 have n3 : ds.length = ks.length := by have := congrArg List.length hk; simpa using this
 have row : ∀ i, i < its.length → ∃ (a : Addr) (ob : Obj) (js : List Value) (c : Nat) (t : Tok), its[i]? = some (.ref a) ∧ s.heap.get? a = some ob ∧ ob.cls = .type "tuple" ∧ ob.data = .seq js.toArray c ∧ js[0]? = some (.str (ks.getD i Str.empty) t) := fun i hi => by
  have hi1 : i < ds.length := by omega
  obtain ⟨v, ev, dv⟩ := hd.get (i := i) (d := ds[i]) (by simp [hi1])
  obtain ⟨u, eu, ru⟩ := rv.get ev
  have ek : HP ds[i] = some (ks.getD i Str.empty) := by
   have := congrArg (·[i]?) hk
   simp only [List.getElem?_map, List.getElem?_eq_getElem hi1, List.getElem?_eq_getElem (show i < ks.length by omega), Option.map_some] at this
   rw [Option.some.inj this, List.getD_eq_getElem?_getD, List.getElem?_eq_getElem (show i < ks.length by omega)]
   rfl
  obtain ⟨rs, er⟩ := PD ek
  rw [er] at dv
  cases dv with
  | tup t1 t2 =>
   cases (show u = .ref _ from ru)
   obtain ⟨js, rt, ⟨ob, ho, hc, c, hd⟩, _⟩ := I.tuple t1.sq
   cases t2 with
   | cons a1 a2 =>
    cases a1
    cases rt with
    | cons b1 b2 =>
     obtain ⟨t, rfl⟩ := b1
     exact ⟨_, ob, _, c, t, eu, ho, hc, hd, rfl⟩
 have some_ : ∀ i, i < its.length → its[i]? = some (its.getD i Value.none) := fun i hi => by simp [hi]
 refine Kt (kd := tuples' true) (RQ ks) pl.isList (by omega) (fun two h1 kp E' R hR => ?_) (fun h1 kp i j hi hj hn C hC => ?_) fun q' pm pu => ?_
 ·have tups : ∀ (l : List Value), (∀ v ∈ l, ∃ (a : Addr) (ob : Obj) (js : List Value) (c : Nat) (z : Str) (t : Tok), v = .ref a ∧ s.heap.get? a = some ob ∧ ob.cls = .type "tuple" ∧ ob.data = .seq js.toArray c ∧ js[0]? = some (.str z t)) →
    ∃ fs, KatTups h1 l fs ∧ fs.length = l.length ∧ ∀ v ∈ fs, ∃ z t, v = Value.str z t := fun l => by
   induction l with
   | nil => intro _; exact ⟨[], .nil, rfl, fun v hv => (nomatch hv)⟩
   | cons v l ih =>
    intro hl
    obtain ⟨a, ob, js, c, z, t, rfl, ho, hc, hd, hf⟩ := hl v List.mem_cons_self
    obtain ⟨fs, i1, i2, i3⟩ := ih fun v hv => hl v (List.mem_cons_of_mem _ hv)
    refine ⟨.str z t :: fs, .cons (kp a ob ho) hc hd (by simpa using hf) i1, by rw [List.length_cons, List.length_cons, i2], fun v hv => ?_⟩
    rcases List.mem_cons.mp hv with rfl | hv
    ·exact ⟨z, t, rfl⟩
    ·exact i3 v hv
  obtain ⟨fs, k1, k2, k3⟩ := tups its fun v hv => by
   obtain ⟨i, hi, rfl⟩ := List.getElem_of_mem hv
   obtain ⟨a, ob, js, c, t, e, r⟩ := row i hi
   rw [List.getElem?_eq_getElem hi] at e
   exact ⟨a, ob, js, c, _, t, Option.some.inj e, r⟩
  exact kat_kind (T := Value.type "str") (s := { s with heap := h1 }) k1 (by omega) (fun v hv => by obtain ⟨z, t, rfl⟩ := k3 v hv; exact .now) rfl hR
 ·obtain ⟨a, ob, js, c, t, e, ho, hc, hd, hf⟩ := row i hi
  obtain ⟨a', ob', js', c', t', e', ho', hc', hd', hf'⟩ := row j hj
  have e1 : its.getD i Value.none = .ref a := by have := some_ i hi; rw [e] at this; exact (Option.some.inj this).symm
  have e2 : its.getD j Value.none = .ref a' := by have := some_ j hj; rw [e'] at this; exact (Option.some.inj this).symm
  have ne : ks.getD i Str.empty ≠ ks.getD j Str.empty := fun z => by
   have hi2 : i < ks.length := by omega
   have hj2 : j < ks.length := by omega
   simp only [List.getD_eq_getElem?_getD, List.getElem?_eq_getElem hi2, List.getElem?_eq_getElem hj2, Option.getD_some] at z
   exact hn (Vi nd hi2 hj2 z)
  rw [e1, e2]
  refine kat_lt (s := { s with heap := h1 }) (kp a ob ho) hd (kp a' ob' ho') hd' ?_
  match js, js', hf, hf' with
  | x :: r1, y :: r2, hf, hf' =>
   cases Option.some.inj hf
   cases Option.some.inj hf'
   refine kat_cons (eqBool_str (kat_go (fun z => ?_) fun _ => kat_no (oneLt_str ?_)))
   ·exact absurd (by simpa using z) ne
   ·exact hC
 ·obtain ⟨e, he⟩ := sortedAll_at s.heap its (W4 its q')
  have hn : H (s.heap.objs.size + 1) = none := I.hok.fresh (Nat.le_succ _)
  have el : its.length = ds.length := by omega
  rw [el] at pm pu
  have hz := pm.size
  refine ⟨.ref (s.heap.objs.size + 1), _, I.laid (t' := s.toks) (a := s.heap.objs.size + 1) (o := .lst (q'.toList.map fun i => vs.getD i .non)) (fun _ _ => sortedAll_old) (Nat.le_succ _) ?_, rfl, q q' pm pu _ hn⟩
  refine ⟨?_, q'.toList.map fun i => its.getD i Value.none, e, ?_, he⟩
  ·rw [List.length_map, Array.length_toList, sizeLine_eq]
   omega
  ·have go : ∀ l : List Nat, (∀ i ∈ l, i < its.length) → Vals (l.map fun i => vs.getD i V.non) (l.map fun i => its.getD i Value.none) := fun l => by
    induction l with
    | nil => intro _; exact .nil
    | cons i l ih =>
     intro hl
     have hi := hl i List.mem_cons_self
     have hi1 : i < vs.length := by omega
     obtain ⟨u, eu, ru⟩ := rv.get (i := i) (x := vs[i]) (by simp [hi1])
     refine .cons ?_ (ih fun j hj => hl j (List.mem_cons_of_mem _ hj))
     have x1 : vs.getD i V.non = vs[i] := by simp [hi1]
     have x2 : its.getD i Value.none = u := by have := some_ i hi; rw [eu] at this; exact (Option.some.inj this).symm
     show L2.RelV (vs.getD i V.non) (its.getD i Value.none)
     rw [x1, x2]
     exact ru
   refine go _ fun i hi => ?_
   obtain ⟨k, hk, rfl⟩ := List.getElem_of_mem hi
   have := pm.below (k := k) (by rw [Array.length_toList] at hk; omega)
   rw [el]
   simpa [at', show k < q'.size by simpa using hk] using this
def leK (a b : PyData) : Prop := ∀ s t, HP a = some s → HP b = some t → ¬ t.cps.toList < s.cps.toList
theorem Zca {ds : List PyData} {ks : List Str} (hk : ds.map HP = ks.map some) {i : Nat} (hi : i < ds.length) : HP (ds.getD i .none) = some (ks.getD i Str.empty) := by
 have n3 : ds.length = ks.length := by have := congrArg List.length hk; simpa using this
 have := congrArg (·[i]?) hk
 simp only [List.getElem?_map, List.getElem?_eq_getElem hi, List.getElem?_eq_getElem (show i < ks.length by omega), Option.map_some] at this
 rw [List.getD_eq_getElem?_getD, List.getD_eq_getElem?_getD, List.getElem?_eq_getElem hi, List.getElem?_eq_getElem (show i < ks.length by omega)]
 exact Option.some.inj this
theorem map_range {α : Type} (l : List α) (d : α) : (List.range l.length).map (fun i => l.getD i d) = l := by
 apply List.ext_getElem?
 intro i
 rw [List.getElem?_map]
 by_cases h : i < l.length
 ·rw [List.getElem?_range h, List.getElem?_eq_getElem h]
  simp [h]
 ·rw [List.getElem?_eq_none (by simpa using h), List.getElem?_eq_none (by simpa using h)]
  rfl
def C5 : D1 := fun xs M Φ => on1 xs fun x => onK x M fun ds => ∃ ks : List Str, ds.map HP = ks.map some ∧ ks.Nodup ∧ ds.length < 64 ∧ ∀ ds' : List PyData, ds'.Perm ds → ds'.Pairwise leK → Φ (.dat (.list ds')) M
theorem DB (xs : List DV) (M : Mp) (Φ : DK) : C5 xs M Φ = (on1 xs fun x => onK x M fun ds => ∃ ks : List Str, ds.map HP = ks.map some ∧ ks.Nodup ∧ ds.length < 64 ∧ ∀ ds' : List PyData, ds'.Perm ds → ds'.Pairwise leK → Φ (.dat (.list ds')) M) := propext Iff.rfl
theorem Xm : QC X (.builtin "sorted") C5 := by
 refine ⟨_, Wh, fun vs H xs M Φ Q r rv h k => ?_⟩
 replace h := ZS h
 obtain ⟨x, rfl, h⟩ := h
 replace h := QV h
 obtain ⟨ds, hx, ks, hk, nd, few, q⟩ := h
 replace hx : W7 x M ds := hx
 obtain ⟨v, rfl, h1⟩ := Paired.one rv
 obtain ⟨a, ys, rfl, g1, g2⟩ := hx.sq r h1
 refine ⟨a, M, ys, ds, ks, rfl, g1, g2, hk, nd, few, fun p pm pu l hl => ?_⟩
 have hz := pm.size
 have pl : p.toList.Perm (List.range ds.length) := by
  have := Array.perm_iff_toList_perm.mp pm
  simpa using this
 have go : ∀ l : List Nat, (∀ i ∈ l, i < ds.length) → Dts X.K M H (l.map fun i => ys.getD i V.non) (l.map fun i => ds.getD i PyData.none) := fun l => by
  induction l with
  | nil => intro _; exact .nil
  | cons i l ih =>
   intro hl
   have hi := hl i List.mem_cons_self
   obtain ⟨v, ev, dv⟩ := g2.get (i := i) (d := ds[i]) (by simp [hi])
   refine .cons ?_ (ih fun j hj => hl j (List.mem_cons_of_mem _ hj))
   show Dt X.K M H (ys.getD i V.non) (ds.getD i PyData.none)
   rw [List.getD_eq_getElem?_getD, List.getD_eq_getElem?_getD, ev, List.getElem?_eq_getElem hi]
   exact dv
 have mem : ∀ i ∈ p.toList, i < ds.length := fun i hi => by
  have := pl.mem_iff.mp hi
  simpa using this
 refine k.dat (r.new hl) (Step.new hl) (Dt.Jl r hl (go _ mem)) (q _ ?_ ?_)
 ·have := pl.map fun i => ds.getD i PyData.none
  rwa [map_range] at this
 ·rw [List.pairwise_iff_getElem]
  intro i j hi hj hij s t es et
  rw [List.length_map] at hi hj
  rw [List.getElem_map] at es et
  have hi' : i < p.size := by simpa using hi
  have hj' : j < p.size := by simpa using hj
  rw [Zca hk (mem _ (List.getElem_mem _))] at es et
  have u := pu i j (by omega) (by omega)
  have u' := of_decide_eq_false u
  have a1 : at' p i = p.toList[i] := by simp [at', hi']
  have a2 : at' p j = p.toList[j] := by simp [at', hj']
  rw [a1, a2] at u'
  rw [Option.some.inj es, Option.some.inj et] at u'
  exact u'
end
end DL
namespace DL
open PySem PySem.Spec PyProof.Rows L2 PySem.W
section
variable {prog : Program} {w : World} {A : Around} {E : Value → Shared → Prop} {s : Shared}
theorem Sh : typeLookup (.type "list") "keys" = pure none := am_miss_of_fast (by decide +kernel)
theorem Su : typeLookup (.type "list") "__getattr__" = pure none := am_miss_of_fast (by decide +kernel)
def LAt (a : Addr) (h : Heap) : Prop := ∃ xs n sl, h.get? a = some { cls := .type "list", data := .seq xs n, slots := sl }
theorem SM {a : Addr} {u : Tok} {Q : PySem.Fin → Shared → Prop} (hl : LAt a s.heap) (hA : A.handled = none) (h : ∀ h' tk e, Heap.NewAttrErr s.heap h' e (.ref a) "keys" → E (.ref e) { s with heap := h', toks := tk }) :
  wpAny (model prog w) A (Builtin.«object.__getattribute__» ⟨[.ref a, .str "keys" u], []⟩) Q E s := by
 obtain ⟨xs, n, sl, hx⟩ := hl
 obtain ⟨hp, g, d, tk, os⟩ := s
 have hT : (⟨hp, g, d, tk, os⟩ : Shared).TypeIs (.ref a) "list" := ⟨_, hx, rfl⟩
 have f4 := Sh
 unfold Builtin.«object.__getattribute__»
 repeat any_goals first | wp_step | assumption
 exact wpAny_raiseAttrError hA h (attrMsg_fits (by decide +kernel) (by decide +kernel))
theorem Zc9 {a : Addr} {Q : Option Value → Shared → Prop} (hl : LAt a s.heap) (hA : A.handled = none) (h : ∀ h' tk, (∀ b ob, s.heap.get? b = some ob → h'.get? b = some ob) → Q none { s with heap := h', toks := tk }) :
  wpAny (model prog w) A (getAttr? (.ref a) "keys") Q E s := by
 obtain ⟨hp, g, d, tk, os⟩ := s
 obtain ⟨xs, n, sl, hx⟩ := id hl
 have hT : ∀ t', (⟨hp, g, d, t', os⟩ : Shared).TypeIs (.ref a) "list" := fun t' => ⟨_, hx, rfl⟩
 have f1 := sub_AttributeError
 have f3 := F.slot_list_getattribute.lookup
 have f4 := F.slot_list_getattribute.bind (.ref a)
 have f5 := Su
 unfold getAttr? getAttrBy? getAttrBy
 repeat any_goals first | wp_step | assumption
 refine codeAny_call_builtin F.slot_list_getattribute.plain F.entry_list_ga (F.slot_list_getattribute.check _ _ _ _ _ _ _ _ (hT _) (F.args_list_getattribute_2 _ _) (SM hl hA fun h' tk' e hx => ?_))
 obtain ⟨t', u', he⟩ := hx.there
 have hK := hx.keeps
 show wpAny _ _ (getattributeRaised _ _ _ _ _ _ _) _ _ _
 unfold getattributeRaised
 repeat any_goals first | wp_step | assumption
 exact h _ _ hK
theorem Be : entryFor table "dict.update.loop" = some Builtin.«dict.update.loop» := entryFor_of_tree (by kernel_rfl)
theorem X9 : plainId "dict.update.loop" = true := by decide +kernel
variable {K : Type} [DecidableEq K] {knd : KeyKind prog w K}
theorem Cs (kvs : List (K × Value)) (k : K) (v : Value) : (stored kvs k v).length ≤ kvs.length + 1 := by
 unfold stored
 split
 ·rw [List.length_map]
  omega
 ·rw [List.length_append, List.length_singleton]
  exact Nat.le_refl _
def LZ (h : Heap) (v key val : Value) : Prop := ∃ a o c, v = .ref a ∧ h.get? a = some o ∧ o.cls = .type "tuple" ∧ o.data = .seq #[key, val] c
theorem BS {D it l : Addr} {its : List Value} {res : Value} {R : Result → Shared → Prop} (hA : A.handled = none) (hDi : D ≠ it) (hDl : D ≠ l) (hil : it ≠ l) : ∀ (ps : List (K × Value)) (i : Nat) (s : Shared) (kvs : List (K × Value)), i + ps.length = its.length →
  s.heap.IsListIter it l i → s.heap.IsList l its.toArray → s.heap.DictOf knd D kvs → kvs.length + ps.length ≤ sizeLine →
  (∀ j p, ps[j]? = some p → ∃ v key, its[i + j]? = some v ∧ LZ s.heap v key p.2 ∧ knd.is p.1 key = true ∧ v ≠ .ref D ∧ v ≠ .ref it) →
  (∀ h' t', (∀ b o, b ≠ D → b ≠ it → s.heap.get? b = some o → h'.get? b = some o) → h'.DictOf knd D (ps.foldl (fun m p => stored m p.1 p.2) kvs) → R (.ok (.ret res)) { s with heap := h', toks := t' }) →
  codeAny (model prog w) A (.builtin "dict.update.loop" ⟨[.ref D, .ref it, rawInt i, res], []⟩) R s
 | [], i, s, kvs, hn, h1, h2, h3, h4, h5, hR => by
  refine codeAny_builtin Be ?_
  rw [Around.under_plainId X9 _]
  show wpAny _ A.in1 (pyNext (.ref it) >>= _) _ _ s
  refine wpAny_bind (wpAny_pyNext_list_end (show A.in1.handled = none from hA) h1 h2 (by rw [List.getElem?_toArray, List.getElem?_eq_none_iff]; exact Nat.le_of_eq (by simpa using hn.symm)) fun h' eb => ?_)
  refine wpAny_bind ?_
  unfold Builtin.Dict.addKeywords
  refine wpAny_pure ?_
  exact wpAny_pure (hR h' s.toks (fun b o hb hi e => eb b o hi e) (h3.extBut eb hDi))
 | p :: ps, i, s, kvs, hn, h1, h2, h3, h4, h5, hR => by
  refine codeAny_builtin Be ?_
  rw [Around.under_plainId X9 _]
  show wpAny _ A.in1 (pyNext (.ref it) >>= _) _ _ s
  obtain ⟨v, key, e1, ⟨a, o, c, rfl, ho, hc, hd⟩, hk, n1, n2⟩ := h5 0 p rfl
  refine wpAny_bind (wpAny_pyNext_list_item h1 h2 (x := .ref a) (by simpa using e1) fun h' st sb => ?_)
  have ho' : h'.get? a = some o := (sb.2 a fun z => n2 (by rw [z])).trans ho
  dsimp only
  refine wpAny_bind (wpAny_holding ?_)
  have hT : ({ s with heap := h' } : Shared).TypeIs (.ref a) "tuple" := ⟨o, ho', hc⟩
  refine wpAny_bind (wpAny_tryCatch ?_)
  unfold Builtin.Dict.pairItems
  refine wpAny_bind (wpAny_typeOf hT ?_)
  rw [if_pos (by decide)]
  refine wpAny_bind (wpAny_seqItems ho' hd (wpAny_pure ?_))
  show wpAny _ _ (holding [key, p.2] (dictSet D key p.2)) _ _ _
  have h3' : h'.DictOf knd D kvs := h3.sameBut sb hDi
  refine wpAny_holding (wpAny_dictSet_pairs hk h3' (fun h2' dd sb2 => ?_) (by omega))
  refine wpAny_pure ⟨plainId_quiet X9 _, ?_⟩
  have hal : ∀ b o, b ≠ D → b ≠ it → s.heap.get? b = some o → h2'.get? b = some o := fun b o z1 z2 e => (sb2.2 b z1).trans ((sb.2 b z2).trans e)
  have go := BS (its := its) (res := res) (R := R) hA hDi hDl hil ps (i + 1) { s with heap := h2', toks := s.toks + 1 } (stored kvs p.1 p.2) (by rw [List.length_cons] at hn; omega) ?_ ?_ dd ?_ (fun j q hj => ?_) fun h3 t3 k3 d3 => ?_
  ·rw [show (i : Int) + 1 = ((i + 1 : Nat) : Int) by omega]
   exact go
  ·exact st.at fun o e => (sb2.2 it (Ne.symm hDi)).trans e
  ·obtain ⟨ol, e1, e2⟩ := h2
   exact ⟨ol, hal l ol (Ne.symm hDl) (Ne.symm hil) e1, e2⟩
  ·have := Cs kvs p.1 p.2
   rw [List.length_cons] at h4
   omega
  ·obtain ⟨v, key', e1, ⟨a', o', c', rfl, ho2, hc2, hd2⟩, hk2, m1, m2⟩ := h5 (j + 1) q (by simpa using hj)
   exact ⟨_, key', by rw [show i + 1 + j = i + (j + 1) by omega]; exact e1, ⟨a', o', c', rfl, hal a' o' (fun z => m1 (by rw [z])) (fun z => m2 (by rw [z])) ho2, hc2, hd2⟩, hk2, m1, m2⟩
  ·exact hR h3 t3 (fun b o z1 z2 e => k3 b o z1 z2 (hal b o z1 z2 e)) d3
theorem HB {h h' : Heap} {a : Addr} {kvs : List (K × Value)} (hm : h.DictOf knd a kvs) (hk : ∀ o, h.get? a = some o → h'.get? a = some o) : h'.DictOf knd a kvs :=
 let ⟨o, es, ep, ho, r⟩ := hm
 ⟨o, es, ep, hk o ho, r⟩
theorem Yt {l : Addr} {its : List Value} {ps : List (K × Value)} {Q : Value → Shared → Prop} (hA : A.handled = none) (hl : LAt l s.heap) (hi : s.heap.IsList l its.toArray) (hn : ps.length = its.length) (hz : ps.length ≤ sizeLine)
  (hr : ∀ (j : Nat) (p : K × Value), ps[j]? = some p → ∃ v key, its[j]? = some v ∧ LZ s.heap v key p.2 ∧ knd.is p.1 key = true)
  (hQ : ∀ h' t', (∀ b o, s.heap.get? b = some o → h'.get? b = some o) → h'.DictOf knd s.heap.objs.size (ps.foldl (fun m p => stored m p.1 p.2) []) → Q (.ref s.heap.objs.size) { s with heap := h', toks := t' }) :
  wpAny (model prog w) A (call (.type "dict") [.ref l]) Q E s := by
 refine callType_codes (Q₁ := fun obj s₁ => obj = .ref s.heap.objs.size ∧ s₁ = { s with heap := s.heap.push { cls := .type "dict", data := .dict #[] } }) F.kt_called_dict (F.kt_typeCall_dict_1 _) F.entry_dict_init (kt_code_dict_new _ ⟨rfl, rfl⟩) fun obj s₁ e => ?_
 obtain ⟨rfl, rfl⟩ := e
 have new : (s.heap.push { cls := .type "dict", data := .dict #[] }).DictOf knd s.heap.objs.size [] := Heap.DictOf.new s.heap
 obtain ⟨xs, n, sl, hx⟩ := id hl
 have hx1 : (s.heap.push { cls := .type "dict", data := .dict #[] }).get? l = some { cls := .type "list", data := .seq xs n, slots := sl } := Heap.get?_push_of_some _ hx
 have lt := Heap.lt_size hx
 refine ⟨new.typeIs, F.args_dict_init_2 _ _, ?_⟩
 unfold Builtin.«dict.__init__»; refine wpAny_bind ?_
 unfold Builtin.Dict.selfAndRest; refine wpAny_bind (wpAny_notOrdered_dict new.typeIs ?_)
 show wpAny _ _ (pure (s.heap.objs.size, [Value.ref l])) _ _ _
 refine wpAny_pure ?_
 show wpAny _ _ (Builtin.Dict.updateFrom "dict.__init__" s.heap.objs.size (.ref l) [] .none) _ _ _
 unfold Builtin.Dict.updateFrom; refine wpAny_bind (wpAny_typeOf (T := "list") ⟨_, hx1, rfl⟩ ?_)
 rw [if_pos (by decide)]
 refine wpAny_bind (Zc9 ⟨xs, n, sl, hx1⟩ hA fun h2 t2 k2 => ?_)
 rw [if_pos (show (none : Option Value).isNone = true from rfl)]
 have k2' : ∀ b ob, s.heap.get? b = some ob → h2.get? b = some ob := fun b ob e => k2 b ob (Heap.get?_push_of_some _ e)
 have hi2 : h2.IsList l its.toArray := let ⟨o, e, r⟩ := hi; ⟨o, k2' l o e, r⟩
 have sz2 : s.heap.objs.size < h2.objs.size := by
  obtain ⟨o, _, _, e, _⟩ := new
  exact Heap.lt_size (k2 _ o e)
 refine wpAny_bind (wpAny_rule (wpAny_bind (wpAny_pyIter_list hi2 ?_)))
 refine wpAny_pure ⟨plainId_quiet X9 _, ?_⟩
 have bnd : ∀ {a : Addr} {o : Obj}, s.heap.get? a = some o → a ≠ s.heap.objs.size ∧ a ≠ h2.objs.size := fun e => by
  have := Heap.lt_size e
  exact ⟨Nat.ne_of_lt this, Nat.ne_of_lt (Nat.lt_trans this sz2)⟩
 show codeAny _ A.in1 (.builtin "dict.update.loop" ⟨[.ref s.heap.objs.size, .ref h2.objs.size, rawInt ((0 : Nat) : Int), .none], []⟩) _ { s with heap := h2.push { cls := .type "list_iterator", data := .fields #[.ref l, .int 0 0] }, toks := t2 }
 refine BS (A := A.in1) (its := its) (l := l) (knd := knd) (ps := ps) (kvs := []) (i := 0) hA (Nat.ne_of_lt sz2) (Ne.symm (bnd hx).1) (Ne.symm (bnd hx).2) _ (by omega) ?_ ?_
  ?_ (by simpa using hz) (fun j p hj => ?_) fun h3 t3 k3 d3 => ?_
 ·exact ⟨_, Heap.get?_push_size _ rfl, rfl, rfl⟩
 ·obtain ⟨o, e, r⟩ := hi2
  exact ⟨o, Heap.get?_push_of_some _ e, r⟩
 ·exact HB new fun o e => Heap.get?_push_of_some _ (k2 _ o e)
 ·obtain ⟨v, key, e1, ⟨a, o, c, rfl, ho, r⟩, hk⟩ := hr j p hj
  exact ⟨_, key, by rw [Nat.zero_add]; exact e1, ⟨a, o, c, rfl, Heap.get?_push_of_some _ (k2' a o ho), r⟩, hk, fun z => (bnd ho).1 (by cases z; rfl), fun z => (bnd ho).2 (by cases z; rfl)⟩
 ·exact ⟨rfl, hQ h3 t3 (fun b o e => k3 b o (bnd e).1 (bnd e).2 (Heap.get?_push_of_some _ (k2' b o e))) d3⟩
end
section
variable {X : Cx}
def V2 (K : PySem.W.Frag) (H : Hp) (v : V) (p : Key × V) : Prop := ∃ a, v = .ref a ∧ SqT K H a [kV p.1, p.2]
def Zaq (K : PySem.W.Frag) : List V → Hp → VK → Prop := fun xs H Q => ∃ (a : Addr) (vs : List V) (ps : List (Key × V)), xs = [.ref a] ∧ SqL K H a vs ∧ vs.length = ps.length ∧ (∀ (j : Nat) (p : Key × V), ps[j]? = some p → ∃ v, vs[j]? = some v ∧ V2 K H v p) ∧
 ∀ l, H l = none → Q (.ref l) (upd H l (.dK (ps.foldl (fun m p => putK m p.1 p.2) [])))
theorem Ez : ∀ {ps : List (Key × V)} {qs : List (Key × Value)} {m : List (Key × V)} {n : List (Key × Value)}, KV ps qs → KV m n → KV (ps.foldl (fun m p => putK m p.1 p.2) m) (qs.foldl (fun m p => stored m p.1 p.2) n)
 | [], _, _, _, r, h => by cases r; exact h
 | p :: ps, _, _, _, r, h => by
  cases r with
  | cons r1 r2 =>
   rw [List.foldl_cons, List.foldl_cons]
   refine Ez r2 ?_
   rw [r1.1]
   exact h.put _ r1.2
theorem Vl : ∀ (ps m : List (Key × V)), (ps.foldl (fun m p => putK m p.1 p.2) m).length ≤ m.length + ps.length
 | [], m => by simp
 | p :: ps, m => by
  rw [List.foldl_cons, List.length_cons]
  have := Vl ps (putK m p.1 p.2)
  have := Jc m p.1 p.2
  omega
theorem Cp (hc : X.calm = true) : QF X (.type "dict") (Zaq X.K) := by
 intro pins s σ H xs us Q I r h
 obtain ⟨a, vs, ps, rfl, hq, hn, hv, q⟩ := h
 obtain ⟨u, rfl, rx⟩ := vals1 r
 cases rx
 obtain ⟨its, rv, pl, hz⟩ := I.list hq
 have n1 := rv.length
 have row : ∀ (j : Nat) (p : Key × V), ps[j]? = some p → ∃ v key val, its[j]? = some v ∧ LZ s.heap v key val ∧ (ZW X.prog X.w).is p.1 key = true ∧ RelV p.2 val := fun j p hj => by
  obtain ⟨v, ev, a', rfl, ht⟩ := hv j p hj
  obtain ⟨u, eu, ru⟩ := rv.get ev
  cases (show u = .ref a' from ru)
  obtain ⟨js, rt, ⟨ob, ho, hcl, c, hd⟩, _⟩ := I.tuple ht
  cases rt with
  | cons b1 b2 => cases b2 with
   | cons b3 b4 =>
    cases b4
    exact ⟨_, _, _, eu, ⟨a', ob, c, rfl, ho, hcl, hd⟩, UP b1, b3⟩
 have all : ∀ (l : List (Key × V)) (i : Nat), (∀ (j : Nat) (p : Key × V), l[j]? = some p → ps[i + j]? = some p) → ∃ qs : List (Key × Value), KV l qs ∧ ∀ (j : Nat) (p : Key × Value), qs[j]? = some p → ∃ v key, its[i + j]? = some v ∧ LZ s.heap v key p.2 ∧ (ZW X.prog X.w).is p.1 key = true := fun l => by
  induction l with
  | nil => intro i _; exact ⟨[], .nil, fun j p hj => by simp at hj⟩
  | cons p l ih =>
   intro i hl
   obtain ⟨qs, k1, k2⟩ := ih (i + 1) fun j p hj => by rw [show i + 1 + j = i + (j + 1) by omega]; exact hl (j + 1) p (by simpa using hj)
   obtain ⟨v, key, val, e1, e2, e3, e4⟩ := row i p (by have := hl 0 p rfl; simpa using this)
   refine ⟨(p.1, val) :: qs, .cons ⟨rfl, e4⟩ k1, fun j p' hj => ?_⟩
   cases j with
   | zero =>
    cases Option.some.inj hj
    exact ⟨v, key, e1, e2, e3⟩
   | succ j =>
    obtain ⟨v, key, e⟩ := k2 j p' (by simpa using hj)
    exact ⟨v, key, by rw [show i + (j + 1) = i + 1 + j by omega]; exact e.1, e.2⟩
 obtain ⟨qs, k1, k2⟩ := all ps 0 fun j p hj => by rw [Nat.zero_add]; exact hj
 have n2 : qs.length = ps.length := (Paired.length k1).symm
 have big := I.big
 obtain ⟨ob, n, ho, hcl, hdi, hda⟩ := id pl
 refine Yt (knd := ZW X.prog X.w) (its := its) (ps := qs) (I.ok.hd hc) ⟨its.toArray, n, ob.slots, by rw [ho]; cases ob; cases hcl; cases hdi; cases hda; rfl⟩ pl.isList (by omega) (by omega)
  (fun j p hj => by have := k2 j p hj; rwa [Nat.zero_add] at this) fun h' t' kp dd => ?_
 have hlen := Vl ps []
 refine ⟨.ref s.heap.objs.size, _, I.laid (t' := t') kp (Nat.le_refl _) (Df (by rw [List.length_nil] at hlen; omega) ?_ (Ez k1 .nil) dd), rfl, q _ (I.hok.fresh (Nat.le_refl _))⟩
 exact beq_eq_false_iff_ne.mpr (Nat.ne_of_gt big)
end
end DL
namespace DL
open PySem PySem.Spec PyProof.Rows L2
def WE (o : Option OO) (P : List (Key × PyData) → Prop) : Prop := match o with | some (.dkv ps) => P ps | _ => False
theorem DF (ps : List (Key × PyData)) (P : List (Key × PyData) → Prop) : WE (some (.dkv ps)) P = P ps := propext Iff.rfl
theorem YK {o : Option OO} {P : List (Key × PyData) → Prop} (h : WE o P) : ∃ ps, o = some (.dkv ps) ∧ P ps := by
 unfold WE at h
 split at h
 ·exact ⟨_, rfl, h⟩
 ·exact h.elim
noncomputable def Qp (ps : List (Key × PyData)) (k : Key) : Option PyData := (ps.find? fun kv => decide (kv.1 = k)).map (·.2)
noncomputable def Q2 (ps : List (Key × PyData)) (k : Key) (d : PyData) : List (Key × PyData) := if (ps.any fun kv => decide (kv.1 = k)) = true then ps.map (fun kv => if kv.1 = k then (kv.1, d) else kv) else ps ++ [(k, d)]
section
variable {K : PySem.W.Frag} {M : Mp} {H : Hp}
inductive KD (K : PySem.W.Frag) (M : Mp) (H : Hp) : List (Key × V) → List (Key × PyData) → Prop
 | nil : KD K M H [] []
 | cons {k : Key} {v : V} {d : PyData} {kvs : List (Key × V)} {ps : List (Key × PyData)} : Dt K M H v d → KD K M H kvs ps → KD K M H ((k, v) :: kvs) ((k, d) :: ps)
theorem KD.of : ∀ {kvs : List (Key × V)} {ps : List (Key × PyData)}, kvs.map (·.1) = ps.map (·.1) → Dts K M H (kvs.map (·.2)) (ps.map (·.2)) → KD K M H kvs ps
 | [], [], _, _ => .nil
 | [], _ :: _, h, _ => by simp at h
 | _ :: _, [], h, _ => by simp at h
 | (k, v) :: kvs, (k', d) :: ps, h, hd => by
  rw [List.map_cons, List.map_cons, List.cons.injEq] at h
  cases (show k = k' from h.1)
  cases hd with
  | cons h1 h2 => exact .cons h1 (KD.of h.2 h2)
theorem KD.keys : ∀ {kvs : List (Key × V)} {ps : List (Key × PyData)}, KD K M H kvs ps → kvs.map (·.1) = ps.map (·.1)
 | _, _, .nil => rfl
 | _, _, .cons _ h => by rw [List.map_cons, List.map_cons, h.keys]
theorem KD.vals : ∀ {kvs : List (Key × V)} {ps : List (Key × PyData)}, KD K M H kvs ps → Dts K M H (kvs.map (·.2)) (ps.map (·.2))
 | _, _, .nil => .nil
 | _, _, .cons h1 h => .cons h1 h.vals
theorem KD.any (k : Key) : ∀ {kvs : List (Key × V)} {ps : List (Key × PyData)}, KD K M H kvs ps → (kvs.any fun kv => decide (kv.1 = k)) = ps.any fun kv => decide (kv.1 = k)
 | _, _, .nil => rfl
 | _, _, .cons _ h => by rw [List.any_cons, List.any_cons, h.any k]
theorem KD.snoc {k : Key} {v : V} {d : PyData} (hd : Dt K M H v d) : ∀ {kvs : List (Key × V)} {ps : List (Key × PyData)}, KD K M H kvs ps → KD K M H (kvs ++ [(k, v)]) (ps ++ [(k, d)])
 | _, _, .nil => .cons hd .nil
 | _, _, .cons h1 h => .cons h1 (h.snoc hd)
theorem KD.R0 (k : Key) {v : V} {d : PyData} (hd : Dt K M H v d) : ∀ {kvs : List (Key × V)} {ps : List (Key × PyData)}, KD K M H kvs ps → KD K M H (kvs.map fun kv => if kv.1 = k then (kv.1, v) else kv) (ps.map fun kv => if kv.1 = k then (kv.1, d) else kv)
 | _, _, .nil => .nil
 | _, _, .cons (k := k') h1 h => by
  rw [List.map_cons, List.map_cons]
  by_cases e : k' = k
  ·rw [if_pos e, if_pos e]
   exact .cons hd (h.R0 k hd)
  ·rw [if_neg e, if_neg e]
   exact .cons h1 (h.R0 k hd)
theorem KD.put (k : Key) {v : V} {d : PyData} (hd : Dt K M H v d) {kvs : List (Key × V)} {ps : List (Key × PyData)} (h : KD K M H kvs ps) : KD K M H (putK kvs k v) (Q2 ps k d) := by
 unfold putK Q2
 rw [h.any k]
 split
 ·exact h.R0 k hd
 ·exact h.snoc hd
theorem KD.val (k : Key) : ∀ {kvs : List (Key × V)} {ps : List (Key × PyData)}, KD K M H kvs ps → (V7 kvs k = none ∧ Qp ps k = none) ∨ ∃ v d, V7 kvs k = some v ∧ Qp ps k = some d ∧ Dt K M H v d
 | _, _, .nil => .inl ⟨rfl, rfl⟩
 | _, _, .cons (k := k') (v := v) (d := d) h1 h => by
  unfold V7 Qp
  by_cases e : k' = k
  ·rw [List.find?_cons_of_pos (by simpa using e), List.find?_cons_of_pos (by simpa using e)]
   exact .inr ⟨v, d, rfl, rfl, h1⟩
  ·rw [List.find?_cons_of_neg (by simpa using e), List.find?_cons_of_neg (by simpa using e)]
   exact h.val k
theorem KD.length {kvs : List (Key × V)} {ps : List (Key × PyData)} (h : KD K M H kvs ps) : kvs.length = ps.length := by
 have := congrArg List.length h.keys
 simpa using this
theorem ZK.dk (r : ZK K M H) {a : Addr} {ps : List (Key × PyData)} (h : M a = some (.dkv ps)) : ∃ kvs, H a = some (.dK kvs) ∧ KD K M H kvs ps := by
 obtain ⟨kvs, e1, e2, e3⟩ := r.ok a _ h
 exact ⟨kvs, e1, .of e2 e3⟩
theorem ZK.Rz (r : ZK K M H) {p : Addr} {kvs : List (Key × V)} {ps : List (Key × PyData)} (st : Step M H (Zv M p (.dkv ps)) (upd H p (.dK kvs))) (h : KD K M H kvs ps) : ZK K (Zv M p (.dkv ps)) (upd H p (.dK kvs)) :=
 r.G9 st ⟨kvs, Z8, h.keys, h.vals.step st⟩
end
section
variable {X : Cx} {o i e value : Expr} {td ti te tv : DTE} {pos pos' : Pos}
def Dx : DTE := fun _ M Φ => ∀ p, M p = none → Φ (.own p) (Zv M p (.dkv []))
theorem ES : DE X (.Dict [] [] pos) Dx :=
 ⟨_, Lo, fun _ _ _ _ _ _ r _ h k p hp => k _ _ (.own p) _ (r.Rz (Step.Q4 hp) .nil) (Step.Q4 hp) rfl (h p (r.tracked hp))⟩
def ZaQ (td ti tv : DTE) : DTS := fun D Δ M => tv Δ M fun x M1 => td Δ M1 fun y M2 => ti Δ M2 fun z M3 => onD x fun d => onO y fun l => onS z fun s => WE (M3 l) fun ps => ps.length < sizeLine ∧ D.nx Δ (Zv M3 l (.dkv (Q2 ps (.inr s) d)))
theorem Dc {k : Nat} (hr : Ji k X.A) (ho : DE X o td) (hi : DE X i ti) (hv : DE X value tv) (hs : autoParam (swapsWith value (some (.Subscript o i pos')) pos.line X.env = pure false) zz3._auto_1) : DS X (.Assign [.Subscript o i pos'] value pos) (ZaQ td ti tv) := by
 obtain ⟨t1, p1, q1⟩ := hv
 obtain ⟨t2, p2, q2⟩ := ho
 obtain ⟨t3, p3, q3⟩ := hi
 refine ⟨_, EC (by have := hr.un; omega) p2 p3 p1 hs, fun σ H Δ M D E r e h k => ?_⟩
 refine q1 σ H Δ M _ _ r e h fun v H1 x M1 r1 st1 rv hx => ?_
 refine q2 σ H1 Δ M1 _ _ r1 (e.step st1) hx fun w H2 y M2 r2 st2 rw2 hy => ?_
 refine q3 σ H2 Δ M2 _ _ r2 (e.step (st1.trans st2)) hy fun u H3 z M3 r3 st3 ru hz => ?_
 replace hz := QK hz
 obtain ⟨d, rfl, hz⟩ := hz
 replace hz := ZU hz
 obtain ⟨l, rfl, hz⟩ := hz
 replace hz := Jm hz
 obtain ⟨s, rfl, hz⟩ := hz
 replace hz := YK hz
 obtain ⟨ps, hm, hl, hn⟩ := hz
 cases (show w = .ref l from rw2)
 cases ru.str
 obtain ⟨kvs, g1, g2⟩ := r3.dk hm
 have dv : Dt X.K M3 H3 v d := (rv.step (st2.trans st3) : Qd X.K M3 H3 v (.dat d))
 refine ⟨l, _, rfl, LS.k (k := .inr s) g1 (by rw [g2.length]; exact hl), ?_⟩
 have st4 : Step M3 H3 (Zv M3 l (.dkv (Q2 ps (.inr s) d))) (upd H3 l (.dK (putK kvs (.inr s) v))) := Step.VL hm
 have stA := st1.trans (st2.trans (st3.trans st4))
 exact k.nx _ _ _ _ (r3.Rz st4 (g2.put _ dv)) stA (e.step stA) hn
theorem Zak (hu : X.A.units + 1 < cLine) : OpR X (compareOp .In) (fun x y H Q => ∃ a kvs s, x = .str s ∧ y = .ref a ∧ H a = some (.dK kvs) ∧ Q (.bl (V7 kvs (.inr s)).isSome) H) := by
 intro pins s σ H x y v u Q I rx ry h
 obtain ⟨a, kvs, z, rfl, rfl, ha, q⟩ := h
 cases (show u = .ref a from ry)
 exact ZgQ hu I (KL.k (k := .inr z) ha) rx fun s' I' => ⟨.bl _, H, I', rfl, q⟩
theorem DY (hu : X.A.units + 1 < cLine) : OpR X (compareOp .NotIn) (fun x y H Q => ∃ a kvs s, x = .str s ∧ y = .ref a ∧ H a = some (.dK kvs) ∧ Q (.bl (!(V7 kvs (.inr s)).isSome)) H) := by
 intro pins s σ H x y v u Q I rx ry h
 obtain ⟨a, kvs, z, rfl, rfl, ha, q⟩ := h
 cases (show u = .ref a from ry)
 exact Ti hu I (KL.k (k := .inr z) ha) rx fun s' I' => ⟨.bl _, H, I', rfl, q⟩
theorem KD.some {K : PySem.W.Frag} {M : Mp} {H : Hp} {kvs : List (Key × V)} {ps : List (Key × PyData)} (h : KD K M H kvs ps) (k : Key) : (V7 kvs k).isSome = (Qp ps k).isSome := by
 rcases h.val k with ⟨a, b⟩ | ⟨v, d, a, b, _⟩
 ·rw [a, b]; rfl
 ·rw [a, b]; rfl
def Pz (neg : Bool) : D2 := fun x y M Φ => onS x fun s => onO y fun l => WE (M l) fun ps => Φ (.dat (.bool ((Qp ps (.inr s)).isSome != neg))) M
theorem ZcW {k : Nat} (hr : Ji k X.A) : OpD X (compareOp .In) (Pz false) := by
 refine ⟨_, Zak (by have := hr.un; omega), fun v u H x y M Φ Q r rv ru h k => ?_⟩
 replace h := Jm h
 obtain ⟨s, rfl, h⟩ := h
 replace h := ZU h
 obtain ⟨l, rfl, h⟩ := h
 replace h := YK h
 obtain ⟨ps, hm, q⟩ := h
 cases (show u = .ref l from ru)
 obtain ⟨kvs, g1, g2⟩ := r.dk hm
 refine ⟨l, kvs, s, rv.str, rfl, g1, ?_⟩
 rw [g2.some]
 simp only [Bool.bne_false] at q
 exact k.dat r Step.refl (Dt.bl _) q
theorem E3 {k : Nat} (hr : Ji k X.A) : OpD X (compareOp .NotIn) (Pz true) := by
 refine ⟨_, DY (by have := hr.un; omega), fun v u H x y M Φ Q r rv ru h k => ?_⟩
 replace h := Jm h
 obtain ⟨s, rfl, h⟩ := h
 replace h := ZU h
 obtain ⟨l, rfl, h⟩ := h
 replace h := YK h
 obtain ⟨ps, hm, q⟩ := h
 cases (show u = .ref l from ru)
 obtain ⟨kvs, g1, g2⟩ := r.dk hm
 refine ⟨l, kvs, s, rv.str, rfl, g1, ?_⟩
 rw [g2.some]
 simp only [Bool.bne_true] at q
 exact k.dat r Step.refl (Dt.bl _) q
def ZcC (td ti : DTE) : DTE := fun Δ M Φ => td Δ M fun x M1 => ti Δ M1 fun y M2 => onO x fun l => onS y fun s => WE (M2 l) fun ps => ∃ d, Qp ps (.inr s) = some d ∧ Φ (.dat d) M2
theorem Fb {k : Nat} (hr : Ji k X.A) (ho : DE X o td) (hi : DE X i ti) (hs : autoParam (ZbS i) zz7._auto_1) : DE X (.Subscript o i pos) (ZcC td ti) := by
 obtain ⟨t1, p1, q1⟩ := ho
 obtain ⟨t2, p2, q2⟩ := hi
 refine ⟨_, Uu (by have := hr.un; omega) p1 p2 hs, fun σ H Δ M Φ Q r e h k => ?_⟩
 refine q1 σ H Δ M _ _ r e h fun v H1 x M1 r1 st1 rv hx => ?_
 refine q2 σ H1 Δ M1 _ _ r1 (e.step st1) hx fun w H2 y M2 r2 st2 rw2 hy => ?_
 replace hy := ZU hy
 obtain ⟨l, rfl, hy⟩ := hy
 replace hy := Jm hy
 obtain ⟨s, rfl, hy⟩ := hy
 replace hy := YK hy
 obtain ⟨ps, hm, d, hd, q⟩ := hy
 cases (show v = .ref l from rv)
 cases rw2.str
 obtain ⟨kvs, g1, g2⟩ := r2.dk hm
 rcases g2.val (.inr s) with ⟨_, b⟩ | ⟨u, d', a, b, du⟩
 ·rw [hd] at b
  cases b
 ·rw [hd] at b
  cases b
  exact ⟨l, u, rfl, by rw [← a]; exact KL.k (k := .inr s) g1, k.dat r2 (st1.trans st2) du q⟩
def ZeA (td ti : DTE) : DTE := fun Δ M Φ => td Δ M fun x M1 => onO x fun l => WE (M1 l) fun _ => ti Δ M1 fun y M2 => onS y fun s => WE (M2 l) fun ps => Φ (.dat ((Qp ps (.inr s)).getD .none)) M2
theorem EL : QF X (.builtin "len") (fun xs H Q => ∃ a kvs, xs = [.ref a] ∧ H a = some (.dK kvs) ∧ Q (.int kvs.length) H) := by
 intro pins s σ H xs us Q I r h
 obtain ⟨a, kvs, rfl, ha, q⟩ := h
 obtain ⟨u, rfl, rx⟩ := vals1 r
 cases rx
 exact ZaR I (.inl ha) fun t s' I' => ⟨.int kvs.length, H, I', ⟨t, rfl⟩, q⟩
def OB : D1 := fun xs M Φ => on1 xs fun x => onO x fun l => WE (M l) fun ps => Φ (.dat (.int ps.length)) M
theorem Rk : QC X (.builtin "len") OB := by
 refine ⟨_, EL, fun vs H xs M Φ Q r rv h k => ?_⟩
 replace h := ZS h
 obtain ⟨x, rfl, h⟩ := h
 replace h := ZU h
 obtain ⟨l, rfl, h⟩ := h
 replace h := YK h
 obtain ⟨ps, hm, q⟩ := h
 obtain ⟨v, rfl, h1⟩ := Paired.one rv
 cases (show v = .ref l from h1)
 obtain ⟨kvs, g1, g2⟩ := r.dk hm
 exact ⟨l, kvs, rfl, g1, by rw [g2.length]; exact k.dat r Step.refl (Dt.int _) q⟩
noncomputable def pairD (p : Str × PyData) : PyData := .tuple [.str p.1, p.2]
noncomputable def Uc (l : List (Str × PyData)) : List (Key × PyData) := l.foldl (fun m p => Q2 m (.inr p.1) p.2) []
def C1 : D1 := fun xs M Φ => on1 xs fun x => onK x M fun ds => ∃ l : List (Str × PyData), ds = l.map pairD ∧ ∀ p, M p = none → Φ (.own p) (Zv M p (.dkv (Uc l)))
theorem BC (hc : X.calm = true) : QC X (.type "dict") C1 := by
 refine ⟨_, Cp hc, fun vs H xs M Φ Q r rv h k => ?_⟩
 replace h := ZS h
 obtain ⟨x, rfl, h⟩ := h
 replace h := QV h
 obtain ⟨ds, hx, l, rfl, q⟩ := h
 replace hx : W7 x M (l.map pairD) := hx
 obtain ⟨v, rfl, h1⟩ := Paired.one rv
 obtain ⟨a, ys, rfl, g1, g2⟩ := hx.sq r h1
 have all : ∀ (l : List (Str × PyData)) (ys : List V), Dts X.K M H ys (l.map pairD) → ∃ ps : List (Key × V), ps.length = ys.length ∧ (∀ (j : Nat) (p : Key × V), ps[j]? = some p → ∃ v, ys[j]? = some v ∧ V2 X.K H v p) ∧ KD X.K M H ps (l.map fun p => ((.inr p.1 : Key), p.2)) := fun l => by
  induction l with
  | nil =>
   intro ys h
   cases h
   exact ⟨[], rfl, fun j p hj => by simp at hj, .nil⟩
  | cons p l ih =>
   intro ys h
   rw [List.map_cons] at h
   cases h with
   | cons h1 h2 =>
    obtain ⟨ps, k1, k2, k3⟩ := ih _ h2
    cases h1 with
    | tup t1 t2 =>
     cases t2 with
     | cons a1 a2 => cases a2 with
      | cons a3 a4 =>
       cases a4
       cases a1
       refine ⟨(.inr p.1, _) :: ps, by rw [List.length_cons, List.length_cons, k1], fun j q hj => ?_, .cons a3 k3⟩
       cases j with
       | zero =>
        cases Option.some.inj hj
        exact ⟨_, rfl, _, rfl, t1.sq⟩
       | succ j =>
        obtain ⟨v, e1, e2⟩ := k2 j q (by simpa using hj)
        exact ⟨v, by simpa using e1, e2⟩
 obtain ⟨ps, k1, k2, k3⟩ := all l ys g2
 refine ⟨a, ys, ps, rfl, g1, k1.symm, k2, fun p hp => ?_⟩
 have fold : ∀ (ps : List (Key × V)) (l : List (Str × PyData)) (m : List (Key × V)) (n : List (Key × PyData)), KD X.K M H ps (l.map fun p => ((.inr p.1 : Key), p.2)) → KD X.K M H m n → KD X.K M H (ps.foldl (fun m p => putK m p.1 p.2) m) (l.foldl (fun m p => Q2 m (.inr p.1) p.2) n) := fun ps => by
  induction ps with
  | nil =>
   intro l m n h hm
   cases l with
   | nil => exact hm
   | cons _ _ => cases h
  | cons p ps ih =>
   intro l m n h hm
   cases l with
   | nil => cases h
   | cons q l =>
    rw [List.map_cons] at h
    cases h with
    | cons h1 h2 =>
     rw [List.foldl_cons, List.foldl_cons]
     exact ih l _ _ h2 (hm.put _ h1)
 have st : Step M H (Zv M p (.dkv (Uc l))) (upd H p (.dK (ps.foldl (fun m p => putK m p.1 p.2) []))) := Step.Q4 hp
 exact k _ _ (.own p) _ (r.Rz st (fold ps l [] [] k3 .nil)) st rfl (q p (r.tracked hp))
end
theorem DZ (Δ : DSt) (M : Mp) (Φ : DK) : Dx Δ M Φ = (∀ p, M p = none → Φ (.own p) (Zv M p (.dkv []))) := propext Iff.rfl
theorem P5 (td ti tv : DTE) (D : Qe) (Δ : DSt) (M : Mp) : ZaQ td ti tv D Δ M = (tv Δ M fun x M1 => td Δ M1 fun y M2 => ti Δ M2 fun z M3 => onD x fun d => onO y fun l => onS z fun s => WE (M3 l) fun ps => ps.length < sizeLine ∧ D.nx Δ (Zv M3 l (.dkv (Q2 ps (.inr s) d)))) := propext Iff.rfl
theorem Pf (neg : Bool) (x y : DV) (M : Mp) (Φ : DK) : Pz neg x y M Φ = (onS x fun s => onO y fun l => WE (M l) fun ps => Φ (.dat (.bool ((Qp ps (.inr s)).isSome != neg))) M) := propext Iff.rfl
theorem SD (td ti : DTE) (Δ : DSt) (M : Mp) (Φ : DK) : ZcC td ti Δ M Φ = (td Δ M fun x M1 => ti Δ M1 fun y M2 => onO x fun l => onS y fun s => WE (M2 l) fun ps => ∃ d, Qp ps (.inr s) = some d ∧ Φ (.dat d) M2) := propext Iff.rfl
theorem Nz (xs : List DV) (M : Mp) (Φ : DK) : OB xs M Φ = (on1 xs fun x => onO x fun l => WE (M l) fun ps => Φ (.dat (.int ps.length)) M) := propext Iff.rfl
theorem FH (xs : List DV) (M : Mp) (Φ : DK) : C1 xs M Φ = (on1 xs fun x => onK x M fun ds => ∃ l : List (Str × PyData), ds = l.map pairD ∧ ∀ p, M p = none → Φ (.own p) (Zv M p (.dkv (Uc l)))) := propext Iff.rfl
theorem Ew {X : Cx} {scope0 : Scope} {C : Addr} {N0 : List Str} {ex : List Addr} {s : Shared} {H : Hp} {sc scope : Scope} {N : List Str} {ix : List (Option Nat)} (hsc : X.env.scope = sc)
  (h : scope.kind = .function ∧ (∀ y ∈ scope.names, y.2 ≠ .cell) ∧ (∀ y ∈ scope.names, y.2 = .local → scope.names.lookup y.1 = some .local) ∧ (∀ y ∈ scope.names, y.2 = .free → (Yg scope0 sc).lookup y.1 = some .cell) ∧ N.length = ix.length ∧
   ∀ j ∈ List.range N.length, Ph { scope0 with names := Yg scope0 sc } N0 scope N ix j = true) : JL (ZA X scope0 C N0 ex s H) scope N ix :=
 Zy (sc := { scope0 with names := Yg scope0 sc }) (by subst hsc; rfl) rfl h
end DL
namespace DL
open PySem PySem.Spec PyProof.Rows L2 PySem.W
section
variable {X : Cx}
def Zey (te ts : DTE) : DTE := fun Δ M Φ => te Δ M fun x M1 => ts Δ M1 fun y M2 => onK x M2 fun ds => onI y fun i => i = -1 ∧ Φ (.dat (.list ds.reverse)) M2
end
end DL
namespace DL
open PySem PySem.Spec PyProof.Rows L2 PySem.W
section
variable {prog : Program} {w : World} {A : Around} {E : Value → Shared → Prop} {s : Shared}
end
section
variable {prog : Program} {w : World} {A : Around} {E : Value → Shared → Prop} {s : Shared}
end
section
variable {X : Cx} {pins : List (Addr × Obj)} {σ : L2.St} {H : Hp} {s : Shared} {h' : Heap}
theorem GX {t' : Nat} {ch : List Addr} (I : L2.Inv X pins σ H s) (k : ∀ b o, b ∉ ch → s.heap.get? b = some o → h'.get? b = some o) (f : ∀ b ∈ ch, Us X pins H b) : L2.Inv X pins σ H { s with heap := h', toks := t' } := by
 have nit : ∀ b u, H b = some u → b ∉ ch := fun b u e z => by rw [(f b z).1] at e; cases e
 refine I.step (g' := s.gens) (d' := s.drawn) (ch := ch) (fun b hb => ?_) (fun b o _ _ hc e _ => k b o hc e) (fun b o _ _ hc e _ => ⟨o.slots, k b o hc e⟩) (fun _ _ _ _ n => n)
  (fun b o hc e => ⟨o, k b o hc e⟩) (fun _ _ e => e) (fun _ _ _ e => e) (fun b ps e => ⟨#[], by rw [e]; simp⟩) (fun m hm => ?_) (fun b u e => ?_) I.bare
 ·obtain ⟨_, f1, _, f3, f4, f5⟩ := f b hb
  exact ⟨f3, f1, f4, f5⟩
 ·obtain ⟨o, es, ep, ho, r⟩ := hm
  exact ⟨o, es, ep, k _ o (fun z => (f _ z).2.1 rfl) ho, r⟩
 ·refine (I.hok b u e).Of (fun c v hc q => k c v ?_ q) (fun _ q => q) fun _ _ q => q
  rcases hc with z | z
  ·rw [z]; exact nit b u e
  ·exact nit c _ z
end
noncomputable def Ite (K : PySem.W.Frag) (a : Addr) : It :=
 ⟨fun i H => ∃ xs x, SqT K H a xs ∧ xs[i]? = some x, fun i H y H' => ∃ T x, (∀ xs, SqT K H a xs → xs[i]? = some x) ∧ H T = none ∧ y = .ref T ∧ H' = upd H T (.tup [.int i, x]), fun i H => ∃ xs, SqT K H a xs ∧ xs.length ≤ i⟩
section
variable {X : Cx}
def ZgN (K : PySem.W.Frag) (ta : TA) : TI := fun σ H R => ta σ H fun vs H1 => ∃ a, vs = [.ref a] ∧ (∃ xs, SqT K H1 a xs) ∧ R (Ite K a) H1
noncomputable def ZeH (ds : List PyData) : List PyData := ds.mapIdx fun i d => .tuple [.int i, d]
def Zhg (ta : DTA) : Y2 := fun Δ M Ψ => ta Δ M fun xs M1 => on1 xs fun x => onT x fun ds => Ψ (ZeH ds) M1
end
theorem ZbO {P : Program} {w : World} {K : PySem.W.Frag} {mg : Str → Option Value} {base : Heap} {k : Nat} {f : Addr} {fd : FuncData} {ps : List Str} {S : DSp} (h : ∀ xs M Φ, ¬ S xs M Φ) : ZT P w K mg base CX0 k f fd ps (lift K S) :=
 ⟨fun vs H Q E z => by obtain ⟨xs, M, Φ, _, _, z, _⟩ := z; exact absurd z (h _ _ _), fun A outer s H args us vs Q E _ _ _ _ z => by obtain ⟨xs, M, Φ, _, _, z, _⟩ := z; exact absurd z (h _ _ _)⟩
end DL
namespace DL
open PySem PySem.Spec PyProof.Rows L2 PySem.W
section
variable {prog : Program} {w : World} {A : Around} {E : Value → Shared → Prop} {s : Shared}
end
section
variable {X : Cx} {pos : Pos}
def ZfW (n : Nat) (t : HS) : DTG := fun x Δ M Φ => onL x fun ds => OZ n ds fun xs => t xs Δ M Φ
end
end DL
namespace DL
open PySem PySem.Spec PyProof.Rows L2 PySem.W
section
variable {X : Cx}
theorem LY (hu : X.A.units < cLine) : OpR X (compareOp .NotEq) (fun x y H Q => ∃ a b xs, x = .ref a ∧ y = .ref b ∧ SqL X.K H a xs ∧ SqL X.K H b [] ∧ Q (.bl (!xs.isEmpty)) H) := by
 intro pins s σ H x y v u Q I rx ry h
 obtain ⟨a, b, xs, rfl, rfl, h1, h2, q⟩ := h
 cases rx
 cases ry
 obtain ⟨its, r, p, _⟩ := I.list h1
 obtain ⟨jts, r2, p2, _⟩ := I.list h2
 cases r2
 have hl := r.length
 cases xs with
 | nil =>
  have e : its.toArray.size = ([] : List Value).toArray.size := by rw [List.size_toArray, List.size_toArray]; exact hl.symm
  refine PySem.SeqAt.RcNeAt.lists (e := fun _ => true) p.isList p2.isList e hu (fun j h1 h2 => absurd h2 (Nat.not_lt_zero _)) _ _ _ _ ⟨.bl _, H, I, ?_, q⟩
  show Value.bool (!(List.range its.toArray.size).all fun _ => true) = _
  rw [e]
  rfl
 | cons x xs =>
  refine PySem.SeqAt.RcNeAt.lists_lengths p.isList p2.isList ?_ hu _ _ _ _ ⟨.bl _, H, I, rfl, q⟩
  rw [List.size_toArray, ← hl]
  rfl
def D5 : D2 := fun x y M Φ => onK x M fun ds => onK y M fun es => es = [] ∧ Φ (.dat (.bool (!ds.isEmpty))) M
theorem BU {k : Nat} (hr : Ji k X.A) : OpD X (compareOp .NotEq) D5 := by
 refine ⟨_, LY (by have := hr.un; omega), fun v u H x y M Φ Q r rv ru h k => ?_⟩
 replace h := QV h
 obtain ⟨ds, hx, h⟩ := h
 replace h := QV h
 obtain ⟨es, hy, rfl, q⟩ := h
 replace hx : W7 x M ds := hx
 replace hy : W7 y M [] := hy
 obtain ⟨a, xs, rfl, h1, h2⟩ := hx.sq r rv
 obtain ⟨b, ys, rfl, h3, h4⟩ := hy.sq r ru
 cases h4
 refine ⟨a, b, xs, rfl, rfl, h1, h3, ?_⟩
 have e : xs.isEmpty = ds.isEmpty := by cases h2 <;> rfl
 rw [e]
 exact k.dat r Step.refl (Dt.bl _) q
def ZdP : D2 := fun x y M Φ => onK x M fun ds => onK y M fun es => ds.length + es.length ≤ sizeLine ∧ ∀ p, M p = none → Φ (.own p) (Zv M p (.lst (ds ++ es)))
def Zem : D1 := fun xs M Φ => on1 xs fun x => onI x fun i => Φ (.dat (.bool (i != 0))) M
theorem FP (x y : DV) (M : Mp) (Φ : DK) : D5 x y M Φ = (onK x M fun ds => onK y M fun es => es = [] ∧ Φ (.dat (.bool (!ds.isEmpty))) M) := propext Iff.rfl
end
noncomputable def isS (h : PyData) (s : Str) : Bool := match h with | .str t => decide (t = s) | _ => false
end DL
namespace DL
open PySem PySem.Spec PyProof.Rows L2 PySem.W PySem.SeqAt PySem.MeetsSeq
theorem QA (l : Addr) (es : Array DictEntry) (n : Nat) (dd : Option Addr) (sl : Array (Option Value)) (b : Str) (u : Tok) :
  Meets (Builtin.«dict.__eq__» ⟨[.ref l, .str b u], []⟩) (fun _ R s => s.heap.get? l = some { cls := .type "dict", dict := dd, data := .dict es n, slots := sl } ∧ R (.ok (.ret .notImplemented)) s) :=
 .of_wp fun prog w A R s h => by
  obtain ⟨hp, g, d, tk, os⟩ := s; obtain ⟨hl, h⟩ := h
  have f1 := F.sub_str_dict
  wp_walk using wpAny_loadPart' hl
  exact ⟨_, rfl, h⟩
theorem Qy (b : Str) (u : Tok) (l : Addr) (c : Value) (es : Array DictEntry) (n : Nat) (dd : Option Addr) (sl : Array (Option Value)) :
  Meets (Builtin.«str.__eq__» ⟨[.str b u, .ref l], []⟩) (fun _ R s => s.heap.get? l = some { cls := c, dict := dd, data := .dict es n, slots := sl } ∧ R (.ok (.ret .notImplemented)) s) :=
 .of_wp fun prog w A R s h => by obtain ⟨hp, g, d, tk, os⟩ := s; obtain ⟨hl, h⟩ := h; wp_walk using wpAny_loadPart' hl, wpAny_load hl; exact ⟨_, rfl, h⟩
section
variable {A : Around} {s : Shared}
def Zds (h : Heap) (l : Addr) : Prop := ∃ (o : Obj) (es : Array DictEntry) (n : Nat), h.get? l = some o ∧ o.cls = .type "dict" ∧ o.data = .dict es n
theorem US {l : Addr} (b : Str) (u : Tok) (hl : Zds s.heap l) (hu : A.units < cLine) : RcAt A s (.ref l) (.str b u) false := fun prog w E Q h => by
 obtain ⟨⟨cls, dd, data, sl⟩, es, n, ho, hc, hd⟩ := hl
 simp only at hc hd
 subst hc hd
 exact rc_eq_decline_or (k := false) ⟨_, ho, rfl⟩ (typeIs_str s b u) (by decide) F.sub_str_dict F.slot_dict_eq F.slot_str_eq_refl
  (fun _ hq => call_meets F.slot_dict_eq ⟨_, ho, rfl⟩ F.entry_dict_eq (F.args_dict_eq_2 _ _) (QA l es n dd sl b u) ⟨ho, hq⟩)
  (fun _ hq => call_meets F.slot_str_eq_refl (typeIs_str s b u) F.entry_str_eq (F.args_str_eq_2 _ _) (Qy b u l (.type "dict") es n dd sl) ⟨ho, hq⟩)
  (fun _ hq => wpAny_of_eq (rfl : isSame (.ref l) (.str b u) = pure false) hq) (.inr hu) h
theorem Gp {l : Addr} (b : Str) (u : Tok) (hl : Zds s.heap l) (hu : A.units < cLine) : RcAt A s (.str b u) (.ref l) false := fun prog w E Q h => by
 obtain ⟨⟨cls, dd, data, sl⟩, es, n, ho, hc, hd⟩ := hl
 simp only at hc hd
 subst hc hd
 exact rc_eq_decline_or (k := false) (typeIs_str s b u) ⟨_, ho, rfl⟩ (by decide) F.sub_dict_str F.slot_str_eq F.slot_dict_eq_refl
  (fun _ hq => call_meets F.slot_str_eq (typeIs_str s b u) F.entry_str_eq (F.args_str_eq_2 _ _) (Qy b u l (.type "dict") es n dd sl) ⟨ho, hq⟩)
  (fun _ hq => call_meets F.slot_dict_eq_refl ⟨_, ho, rfl⟩ F.entry_dict_eq (F.args_dict_eq_2 _ _) (QA l es n dd sl b u) ⟨ho, hq⟩)
  (fun _ hq => wpAny_of_eq (rfl : isSame (.str b u) (.ref l) = pure false) hq) (.inr hu) h
theorem Uv {l : Addr} (b : Str) (u : Tok) (hl : Zds s.heap l) (hu : A.units < cLine) : EqAt A s (.str b u) (.ref l) false := fun prog w E Q h => by
 unfold eqBool
 refine wpAny_holding ?_
 refine wpAny_ite_split (fun hab => absurd (eq_of_beq hab) nofun) (fun _ => ?_)
 exact wpAny_bind (Gp b u hl hu prog w E _ (wpAny_truthy_bool h))
end
section
variable {X : Cx}
inductive Bs (h : Heap) (b : Bool) (t : Str) : Value → Prop
 | non : b = false → Bs h b t .none
 | bl (k : Bool) : b = false → Bs h b t (.bool k)
 | int (i : Int) (u : Tok) : b = false → Bs h b t (.int i u)
 | str (x : Str) (u : Tok) : b = decide (x = t) → Bs h b t (.str x u)
 | tup {a : Addr} {items : Array Value} : h.IsTuple a items → b = false → Bs h b t (.ref a)
 | lst {a : Addr} {items : Array Value} : h.IsList a items → b = false → Bs h b t (.ref a)
 | dic {a : Addr} : Zds h a → b = false → Bs h b t (.ref a)
theorem Bs.rc {A : Around} {s : Shared} {b : Bool} {t : Str} {v : Value} (u : Tok) (h : Bs s.heap b t v) (hu : A.units < cLine) : RcAt A s v (.str t u) b := by
 cases h with
 | non e => rw [e]; exact RcAt.none_str t u
 | bl k e => rw [e]; exact RcAt.bool_str k t u
 | int i w e => rw [e]; exact RcAt.int_str i w t u
 | str x w e => rw [e, ← Bool.beq_eq_decide_eq]; exact RcAt.str_str x w t u
 | tup p e => rw [e]; exact RcAt.tuple_str t u p hu
 | lst p e => rw [e]; exact RcAt.list_str t u p hu
 | dic p e => rw [e]; exact US t u p hu
theorem Bs.eq {A : Around} {s : Shared} {b : Bool} {t : Str} {v : Value} (u : Tok) (h : Bs s.heap b t v) (hu : A.units < cLine) : EqAt A s (.str t u) v b := by
 cases h with
 | non e => rw [e]; exact EqAt.str_none t u
 | bl k e => rw [e]; exact EqAt.str_bool t u k
 | int i w e => rw [e]; exact EqAt.str_int t u i w
 | str x w e =>
  have e2 : b = (t == x) := by rw [e, Bool.beq_eq_decide_eq, decide_eq_decide]; exact eq_comm
  rw [e2]
  exact EqAt.str_str t u x w
 | tup p e => rw [e]; exact EqAt.str_tuple t u p hu
 | lst p e => rw [e]; exact EqAt.str_list t u p hu
 | dic p e => rw [e]; exact Uv t u p hu
def Zf9 : D2 := fun x y M Φ => onD x fun d => onS y fun t => Φ (.dat (.bool (isS d t))) M
def Zgs : D2 := fun x y M Φ => onD x fun d => onT y fun ds => ∃ ts : List Str, ds = ts.map PyData.str ∧ Φ (.dat (.bool (ts.any (isS d)))) M
end
end DL
namespace DL
open PySem PySem.Spec PyProof.Rows L2 PySem.W
theorem WM : ∀ (l acc : List (Key × V)), (l.map (·.1)).Nodup → (∀ p ∈ l, ∀ q ∈ acc, q.1 ≠ p.1) → l.foldl (fun acc kv => putK acc kv.1 kv.2) acc = acc ++ l
 | [], acc, _, _ => by simp
 | p :: l, acc, hn, hd => by
  rw [List.map_cons, List.nodup_cons] at hn
  have e : putK acc p.1 p.2 = acc ++ [p] := by
   unfold putK
   rw [if_neg]
   intro z
   obtain ⟨q, hq, e⟩ := List.any_eq_true.mp z
   exact hd p List.mem_cons_self q hq (of_decide_eq_true e)
  rw [List.foldl_cons, e, WM l _ hn.2 fun p' hp' q hq => ?_]
  ·simp
  ·rcases List.mem_append.mp hq with hq | hq
   ·exact hd p' (List.mem_cons_of_mem _ hp') q hq
   ·rw [List.mem_singleton.mp hq]
    intro z
    exact hn.1 (List.mem_map.mpr ⟨p', hp', z.symm⟩)
theorem B7 (l : List (Key × V)) (h : (l.map (·.1)).Nodup) : YT [] l = l := by
 unfold YT
 rw [WM l [] h fun p _ q hq => (nomatch hq)]
 rfl
section
variable {X : Cx} {pos : Pos}
def Zfk (tk0 tk1 tk2 tk3 tk4 tk5 tv0 tv1 tv2 tv3 tv4 tv5 : DTE) : DTE := fun Δ M Φ => tk0 Δ M fun x0 M1 => tv0 Δ M1 fun y0 M2 => tk1 Δ M2 fun x1 M3 => tv1 Δ M3 fun y1 M4 => tk2 Δ M4 fun x2 M5 => tv2 Δ M5 fun y2 M6 => tk3 Δ M6 fun x3 M7 => tv3 Δ M7 fun y3 M8 => tk4 Δ M8 fun x4 M9 => tv4 Δ M9 fun y4 M10 => tk5 Δ M10 fun x5 M11 => tv5 Δ M11 fun y5 M12 => onS x0 fun s0 => onD y0 fun d0 => onS x1 fun s1 => onD y1 fun d1 => onS x2 fun s2 => onD y2 fun d2 => onS x3 fun s3 => onD y3 fun d3 => onS x4 fun s4 => onD y4 fun d4 => onS x5 fun s5 => onD y5 fun d5 => ([s0, s1, s2, s3, s4, s5] : List Str).Nodup ∧ ∀ p, M12 p = none → Φ (.own p) (Zv M12 p (.dkv [(Sum.inr s0, d0), (Sum.inr s1, d1), (Sum.inr s2, d2), (Sum.inr s3, d3), (Sum.inr s4, d4), (Sum.inr s5, d5)]))
def ZgX : D2 := fun x y M Φ => onO x fun l => onI y fun i => JC (M l) fun ds => (0 ≤ i ∧ i < 2 ^ 63 ∧ ds.length * i.toNat ≤ sizeLine) ∧ Φ (.dat (.list (List.replicate i.toNat ds).flatten)) M
end
end DL
namespace DL
open PySem PySem.Spec PyProof.Rows L2 PySem.W PySem.SeqAt PySem.MeetsSeq
section
variable {X : Cx}
def Ze5 : D2 := fun x y M Φ => onT x fun ds => onI y fun k => (2 ≤ k ∧ k ≤ 1000 ∧ 1 ≤ ds.length ∧ ds.length ≤ 1000) ∧ Φ (.dat (.tuple (List.replicate k.toNat ds).flatten)) M
def Zeo : D2 := fun x y M Φ => onT x fun ds => onT y fun es => ds.length + es.length ≤ sizeLine ∧ Φ (.dat (.tuple (ds ++ es))) M
end
end DL
namespace DL
open PySem PySem.Spec PyProof.Rows L2 PySem.W
noncomputable def Itz (K : PySem.W.Frag) (a b : Addr) : It :=
  ⟨fun i H => ∃ xs ys x y, SqL K H a xs ∧ xs[i]? = some x ∧ SqL K H b ys ∧ ys[i]? = some y,
   fun i H v H' => ∃ T x y, (∀ xs, SqL K H a xs → xs[i]? = some x) ∧ (∀ ys, SqL K H b ys → ys[i]? = some y) ∧ H T = none ∧ v = .ref T ∧ H' = upd H T (.tup [x, y]),
   fun i H => ∃ xs ys, SqL K H a xs ∧ SqL K H b ys ∧ (xs.length ≤ i ∨ ys.length ≤ i)⟩
def Cc (a b : Addr) (n : Nat) (i : Nat) (h : Heap) : Prop :=
 IsZip h (n + 4) (n + 2) (n + 3) .none ∧ IsPair h (n + 2) (.ref n) (.ref (n + 1)) ∧ (∃ u v, IsPair h (n + 3) u v) ∧ h.IsListIter n a i ∧ h.IsListIter (n + 1) b i
theorem zn {n p q : Nat} (h : p ≠ q) : n + p ≠ n + q := fun e => h (Nat.add_left_cancel e)
theorem zn0 {n p : Nat} (h : p ≠ 0) : n + p ≠ n := fun e => h (by omega)
theorem Cc.apart {a b : Addr} {n : Nat} {i : Nat} {h : Heap} {xs ys : Array Value} (st : Cc a b n i h) (ha : h.IsList a xs) (hb : h.IsList b ys) : ZipApart (n + 4) (n + 2) (n + 3) n (n + 1) a b := by
 obtain ⟨hz, h2, ⟨u, v, h3⟩, h0, h1⟩ := st
 have nz : ∀ {l : Addr} {zs : Array Value} (_ : h.IsList l zs), l ≠ n + 4 ∧ l ≠ n + 3 ∧ l ≠ n ∧ l ≠ n + 1 := by
  intro l zs hl
  obtain ⟨o, ho, hc, _⟩ := hl
  refine ⟨fun e => ?_, fun e => ?_, fun e => ?_, fun e => ?_⟩
  ·rw [e, hz] at ho; cases ho; exact absurd (Value.type.inj hc) (by decide)
  ·rw [e, h3] at ho; cases ho; exact absurd (Value.type.inj hc) (by decide)
  ·obtain ⟨o', ho', hc', _⟩ := h0
   rw [e, ho'] at ho; cases ho; rw [hc'] at hc; exact absurd (Value.type.inj hc) (by decide)
  ·obtain ⟨o', ho', hc', _⟩ := h1
   rw [e, ho'] at ho; cases ho; rw [hc'] at hc; exact absurd (Value.type.inj hc) (by decide)
 have A := nz ha
 have B := nz hb
 exact ⟨zn (by decide), zn (by decide), (zn0 (by decide)).symm, zn (by decide), zn (by decide), zn0 (by decide), zn (by decide), zn0 (by decide), zn (by decide), (zn0 (by decide)).symm, A.1, A.2.1, A.2.2.1, A.2.2.2, B.1, B.2.1, B.2.2.1, B.2.2.2⟩
theorem Cc.keep {a b : Addr} {n : Nat} {i : Nat} {h h' : Heap} (st : Cc a b n i h) (k : ∀ c ∈ [n + 4, n + 2, n + 3, n, n + 1], ∀ o, h.get? c = some o → h'.get? c = some o) : Cc a b n i h' := by
 obtain ⟨hz, h2, ⟨u, v, h3⟩, h0, h1⟩ := st
 exact ⟨k _ (by simp) _ hz, k _ (by simp) _ h2, ⟨u, v, k _ (by simp) _ h3⟩, h0.at fun o e => k _ (by simp) o e, h1.at fun o e => k _ (by simp) o e⟩
theorem Mb {P : Program} {w : World} {K : PySem.W.Frag} {elts : List Expr} {x1 : Nat} {pos : Pos} (a b : Addr) (n : Nat) : Turn P w K (.Tuple elts x1 pos) (Itz K a b) [n + 4, n + 2, n + 3, n, n + 1] (n + 4) (Cc a b n) where
 mem := by simp
 obj := fun i h st c hc => by
  obtain ⟨hz, h2, ⟨u, v, h3⟩, h0, h1⟩ := st
  have it : ∀ {p l : Addr} {j : Nat}, h.IsListIter p l j → ∃ o, h.get? p = some o ∧ ∀ v, o.data ≠ .cell v := fun ⟨o, ho, _, hd⟩ => ⟨o, ho, fun v z => by rw [hd] at z; cases z⟩
  simp only [List.mem_cons, List.not_mem_nil, or_false] at hc
  rcases hc with rfl | rfl | rfl | rfl | rfl
  ·exact ⟨_, hz, fun v z => nomatch z⟩
  ·exact ⟨_, h2, fun v z => nomatch z⟩
  ·exact ⟨_, h3, fun v z => nomatch z⟩
  ·exact it h0
  ·exact it h1
 keep := fun i h h' st k => st.keep k
 item := by
  intro X hP hw hK hc i pins s σ H E I hf st hg
  subst hP hw hK
  obtain ⟨xs, ys, x, y, hq, hx, hr, hy⟩ := hg
  obtain ⟨its, rv, p, hz⟩ := I.list hq
  obtain ⟨jts, rw', p', hz'⟩ := I.list hr
  obtain ⟨u, hu, ru⟩ := rv.get hx
  obtain ⟨v, hv, rv2⟩ := rw'.get hy
  have hA : s.heap.IsList a its.toArray := p.isList
  have hB : s.heap.IsList b jts.toArray := p'.isList
  have D := st.apart hA hB
  obtain ⟨tz, t2, ⟨c, d, t3⟩, t0, t1⟩ := st
  refine wpAny_pyNext_zip_item D tz t2 t3 t0 t1 hA hB (x := u) (y := v) (by simpa using hu) (by simpa using hv) fun h' z1 z2 z3 z4 z5 z6 z7 => ?_
  refine ⟨_, rfl, ?_⟩
  refine wpAny_letOwnedTupleGo_zip z1 fun h2 hz2 hs2 => ?_
  have zl : n + 4 < s.heap.objs.size := Heap.lt_size tz
  have hTn : H s.heap.objs.size = none := I.hok.fresh (Nat.le_refl _)
  have g2 : h2.get? s.heap.objs.size = some { cls := .type "tuple", data := .seq #[u, v] } := (hs2.2 _ (Nat.ne_of_gt zl)).trans z5
  have IA : L2.Inv X pins σ (upd H s.heap.objs.size (.tup [x, y])) { s with heap := s.heap.push { cls := .type "tuple", data := .seq #[u, v] }, toks := s.toks } :=
   I.laid (t' := s.toks) (o := .tup [x, y]) (fun b ob q => Heap.get?_push_of_some _ q) (Nat.le_refl _) ⟨by rw [sizeLine_eq]; exact (by decide : 2 ≤ 16777216), [u, v], .cons ru (.cons rv2 .nil), IsTup.new _ _⟩
  have fN : ∀ c ∈ [n + 4, n + 2, n + 3, n, n + 1], Us X pins (upd H s.heap.objs.size (.tup [x, y])) c := fun c hc => by
   have f := hf c hc
   refine ⟨?_, f.2⟩
   have hlt : c < s.heap.objs.size := by
    simp only [List.mem_cons, List.not_mem_nil, or_false] at hc
    rcases hc with rfl | rfl | rfl | rfl | rfl <;> omega
   rw [ZC (Nat.ne_of_lt hlt)]
   exact f.1
  have I2 : L2.Inv X pins σ (upd H s.heap.objs.size (.tup [x, y])) { s with heap := h2, toks := s.toks } := GX (s := { s with heap := s.heap.push { cls := .type "tuple", data := .seq #[u, v] }, toks := s.toks }) (t' := s.toks) (ch := [n + 4, n + 2, n + 3, n, n + 1]) IA (fun c o hc q => by
   have q' : (s.heap.push { cls := .type "tuple", data := .seq #[u, v] }).get? c = some o := q
   have n4 : c ≠ n + 4 := fun z => hc (by simp [z])
   by_cases hT : c = s.heap.objs.size
   ·rw [hT, Heap.get?_push_size _ rfl] at q'
    rw [hT, g2]
    exact q'
   ·have q2 : s.heap.get? c = some o := by
     rw [← q']
     exact (Heap.get?_push_ne _ _ _ hT).symm
    exact (hs2.2 c n4).trans (z7 c o n4 (fun z => hc (by simp [z])) (fun z => hc (by simp [z])) (fun z => hc (by simp [z])) q2)) fN
  refine ⟨.ref s.heap.objs.size, _, I2, rfl, ⟨_, x, y, fun zs hy => by rw [I.XB hy hq]; exact hx, fun zs hx => by rw [I.XB hx hr]; exact hy, hTn, rfl, rfl⟩, ?_, fun b hb => (fN b hb).1⟩
  have e2 : h'.get? (n + 2) = _ := z7 (n + 2) _ (zn (by decide)) (zn (by decide)) (zn0 (by decide)) (zn (by decide)) t2
  exact ⟨hz2, (hs2.2 _ (zn (by decide))).trans e2, ⟨u, v, (hs2.2 _ (zn (by decide))).trans z2⟩, z3.at fun o e => (hs2.2 _ (zn0 (by decide)).symm).trans e, z4.at fun o e => (hs2.2 _ (zn (by decide))).trans e⟩
 done := by
  intro X hP hw hK hc i pins s σ H E I hf st hg
  subst hP hw hK
  obtain ⟨xs, ys, hq, hr, hl⟩ := hg
  obtain ⟨its, rv, p, hz⟩ := I.list hq
  obtain ⟨jts, rw', p', hz'⟩ := I.list hr
  have hA : s.heap.IsList a its.toArray := p.isList
  have hB : s.heap.IsList b jts.toArray := p'.isList
  have D := st.apart hA hB
  obtain ⟨tz, t2, ⟨c, d, t3⟩, t0, t1⟩ := st
  have l1 := rv.length
  have l2 := rw'.length
  refine wpAny_pyNext_zip_end (show X.A.handled = none from I.ok.hd hc) D tz t2 t3 t0 t1 hA hB (hl.imp (fun h => by simp; omega) fun h => by simp; omega) fun h' hk => ?_
  exact ⟨rfl, GX (t' := s.toks) (ch := [n + 4, n + 2, n + 3, n, n + 1]) I (fun c o hb q => hk c o (fun z => hb (by simp [z])) (fun z => hb (by simp [z])) (fun z => hb (by simp [z])) (fun z => hb (by simp [z])) q) fun b hb => hf b hb⟩
 self := fun _ _ _ _ _ st h => wpAny_pyIter_zip st.1 h
section
variable {X : Cx}
def Zgp (K : PySem.W.Frag) (ta : TA) : TI := fun σ H R => ta σ H fun vs H1 => ∃ a b, vs = [.ref a, .ref b] ∧ (∃ xs, SqL K H1 a xs) ∧ (∃ ys, SqL K H1 b ys) ∧ R (Itz K a b) H1
theorem boot_zip : bootBuiltins "zip" = some (.type "zip") := by decide +kernel
theorem Zcn {a b : Expr} {elts : List Expr} {x1 : Nat} {tp : Pos} {ta : TA} {p pos : Pos} (hg : Gl X "zip") (hm : X.mg "zip" = none) (ha : PA X [a, b] ta) (hs : autoParam (starEach [a, b] X.env = [(false, eval a X.env), (false, eval b X.env)]) zz3._auto_1) (hs2 : autoParam (starEach [b] X.env = [(false, eval b X.env)]) zz3._auto_1) : PI X (.Tuple elts x1 tp) (.Call (.Name "zip" p) [a, b] [] pos) (Zgp X.K ta) := by
 intro pins s σ H R I h
 refine Call_ (Xk I hg hm boot_zip (PyProof.Rows.callWith_type1 (thn (ha pos pins s σ H _ I h) fun us s1 ⟨vs, H1, I1, r1, q1⟩ => ?_) (by rw [hs, hs2]) (by rw [hs2]; rfl)))
 obtain ⟨l, m, e, ⟨xs, hq⟩, ⟨ys, hr⟩, q⟩ := q1
 subst e
 cases r1 with
 | cons r rr =>
  cases rr with
  | cons r' rr =>
   cases rr
   cases r
   cases r'
   obtain ⟨its, rv, pt, hz⟩ := I1.list hq
   obtain ⟨jts, rw', pt', hz'⟩ := I1.list hr
   refine call_zip_2 pt.isList pt'.isList fun h' z1 z2 z3 z4 z5 hsz hk => ?_
   have I2 : L2.Inv X pins σ H1 { s1 with heap := h' } := I1.kept (t' := s1.toks) hk
   refine wpAny_pyIter_zip z1 ?_
   refine ⟨s1.heap.objs.size + 4, [s1.heap.objs.size + 4, s1.heap.objs.size + 2, s1.heap.objs.size + 3, s1.heap.objs.size, s1.heap.objs.size + 1], _, _, H1, rfl, I2, Mb l m s1.heap.objs.size, ⟨z1, z2, ⟨_, _, z3⟩, z4, z5⟩, fun c hc => ?_, q⟩
   have hle : s1.heap.objs.size ≤ c := by
    simp only [List.mem_cons, List.not_mem_nil, or_false] at hc
    rcases hc with rfl | rfl | rfl | rfl | rfl <;> omega
   exact I1.To hle (I1.hok.fresh hle)
noncomputable def HN (as bs : List PyData) : List PyData := List.zipWith (fun a b => .tuple [a, b]) as bs
theorem Nn {as bs : List PyData} {i : Nat} {a b : PyData} (h : as[i]? = some a) (k : bs[i]? = some b) : (HN as bs)[i]? = some (.tuple [a, b]) := by
 unfold HN
 rw [List.getElem?_zipWith, h, k]
def Zhs (ta : DTA) : Y2 := fun Δ M Ψ => ta Δ M fun xs M1 => on2 xs fun x y => onL x fun as => onL y fun bs => Ψ (HN as bs) M1
end
end DL
namespace DL
open PySem PySem.Spec PyProof.Rows L2 PySem.W
section
variable {X : Cx} {pos : Pos}
abbrev DTP := DSt → Mp → (List (DV × DV) → Mp → Prop) → Prop
def DPs (X : Cx) (pos : Pos) (keys : List (Option Expr)) (values : List Expr) (τ : DTP) : Prop :=
 ∃ trs, PPs X pos keys values trs ∧ trs.length = keys.length ∧ ∀ σ H Δ M Φ (Q : List (V × V) → Hp → Prop), ZK X.K M H → QJ X.K M H σ Δ → τ Δ M Φ →
  (∀ ps H' qs M', ZK X.K M' H' → Step M H M' H' → Paired (fun (p : V × V) (q : DV × DV) => Qd X.K M' H' p.1 q.1 ∧ Qd X.K M' H' p.2 q.2) ps qs → Φ qs M' → Q ps H') → GQ trs σ H Q
def Zcq : DTP := fun _ M Φ => Φ [] M
def OR (tk tv : DTE) (t : DTP) : DTP := fun Δ M Φ => tk Δ M fun x M1 => tv Δ M1 fun y M2 => t Δ M2 fun qs M3 => Φ ((x, y) :: qs) M3
theorem Ra (Δ : DSt) (M : Mp) (Φ : List (DV × DV) → Mp → Prop) : Zcq Δ M Φ = Φ [] M := propext Iff.rfl
theorem ML (tk tv : DTE) (t : DTP) (Δ : DSt) (M : Mp) (Φ : List (DV × DV) → Mp → Prop) : OR tk tv t Δ M Φ = (tk Δ M fun x M1 => tv Δ M1 fun y M2 => t Δ M2 fun qs M3 => Φ ((x, y) :: qs) M3) := propext Iff.rfl
theorem C7 : DPs X pos [] [] Zcq := ⟨[], Rw, rfl, fun _ H _ M _ _ r _ h k => k [] H [] M r Step.refl .nil h⟩
theorem Yb {k v : Expr} {ks : List (Option Expr)} {vs : List Expr} {tk tv : DTE} {t : DTP} (hk : DE X k tk) (hv : DE X v tv) (hr : DPs X pos ks vs t) : DPs X pos (some k :: ks) (v :: vs) (OR tk tv t) := by
 obtain ⟨a, p, q⟩ := hk
 obtain ⟨b, p2, q2⟩ := hv
 obtain ⟨c, p3, hl, q3⟩ := hr
 refine ⟨_, MP p p2 p3, by rw [List.length_cons, List.length_cons, hl], fun σ H Δ M Φ Q r e h k => ?_⟩
 refine q σ H Δ M _ _ r e h fun x H1 x' M1 r1 st1 rx hx => ?_
 refine q2 σ H1 Δ M1 _ _ r1 (e.step st1) hx fun y H2 y' M2 r2 st2 ry hy => ?_
 exact q3 σ H2 Δ M2 _ _ r2 ((e.step st1).step st2) hy fun ps H3 qs M3 r3 st3 rp hq => k _ H3 _ M3 r3 ((st1.trans st2).trans st3) (.cons ⟨(rx.step st2).step st3, ry.step st3⟩ rp) hq
def ZbR : List (DV × DV) → (List (Key × PyData) → Prop) → Prop
 | [], P => P []
 | (x, y) :: r, P => Vh x fun k => onD y fun d => ZbR r fun l => P ((k, d) :: l)
def ZgT (t : DTP) : DTE := fun Δ M Φ => ∀ p, M p = none → t Δ (Zv M p (.dkv [])) fun qs M2 => ZbR qs fun l => M2 p = some (.dkv []) ∧ ((l.map (·.1)).Nodup ∧ l.length ≤ 15) ∧ Φ (.own p) (Zv M2 p (.dkv l))
def Zgw (td ti tx : DTE) : DTE := fun Δ M Φ => td Δ M fun x M1 => onO x fun l => WE (M1 l) fun _ => ti Δ M1 fun y M2 => tx Δ M2 fun z M3 => onS y fun s => onD z fun d => WE (M3 l) fun ps => Φ (.dat ((Qp ps (.inr s)).getD d)) M3
end
end DL
namespace DL
open PySem PySem.Spec PyProof.Rows L2 PySem.W
section
variable {X : Cx} {pins : List (Addr × Obj)} {σ : L2.St} {H : Hp} {s : Shared} {M : Mp}
end
section
variable {X : Cx}
def ZdT : D1 := fun xs M Φ => on1 xs fun x => onT x fun ds => ((∀ d ∈ ds, Shw d) ∧ (PyData.tuple ds).depth ≤ 64 ∧ (PyData.tuple ds).shown.length ≤ sizeLine) ∧ Φ (.dat (.str (PyData.tuple ds).shown)) M
end
end DL
namespace DL
open PySem PySem.Spec PyProof.Rows L2 PySem.W
def Rsg (l : List Nat) : Prop := l.Pairwise (· < ·)
theorem Rsg.lt {l : List Nat} (h : Rsg l) {i j u v : Nat} (hi : l[i]? = some u) (hj : l[j]? = some v) (hij : i < j) : u < v := by
 obtain ⟨h1, rfl⟩ := List.getElem?_eq_some_iff.mp hi
 obtain ⟨h2, rfl⟩ := List.getElem?_eq_some_iff.mp hj
 exact (List.pairwise_iff_getElem.mp h) i j h1 h2 hij
def Spl (l : List Nat) (j r : Nat) : Prop := (∀ k v, k < r → l[k]? = some v → v < j) ∧ (∀ k v, r ≤ k → l[k]? = some v → j ≤ v) ∧ r ≤ l.length
theorem XG {xs : Array Nat} (h : Rsg xs.toList) (j : Nat) : ∀ fuel lo hi, hi - lo ≤ fuel → lo ≤ hi → hi ≤ xs.size → (∀ k v, k < lo → xs.toList[k]? = some v → v < j) → (∀ k v, hi ≤ k → xs.toList[k]? = some v → j ≤ v) → Spl xs.toList j (SetTable.below.go xs j fuel lo hi)
 | 0, lo, hi, hf, hl, hs, h1, h2 => by
  have e : hi = lo := by omega
  subst e
  exact ⟨h1, h2, by rw [Array.length_toList]; exact hs⟩
 | fuel + 1, lo, hi, hf, hl, hs, h1, h2 => by
  unfold SetTable.below.go
  by_cases hlt : lo < hi
  ·rw [if_pos hlt]
   dsimp only
   have hm : (lo + hi) / 2 < xs.size := by omega
   have hg : xs.toList[(lo + hi) / 2]? = some (xs.getD ((lo + hi) / 2) j) := by
    rw [Array.getElem?_toList, Array.getElem?_eq_getElem hm]
    simp [Array.getD, hm]
   by_cases hc : xs.getD ((lo + hi) / 2) j < j
   ·rw [if_pos hc]
    refine XG h j fuel _ _ (by omega) (by omega) hs (fun k v hk hv => ?_) h2
    by_cases e : k = (lo + hi) / 2
    ·rw [e, hg] at hv
     cases hv
     exact hc
    ·exact Nat.lt_trans (h.lt hv hg (by omega)) hc
   ·rw [if_neg hc]
    refine XG h j fuel _ _ (by omega) (by omega) (by omega) h1 (fun k v hk hv => ?_)
    by_cases e : k = (lo + hi) / 2
    ·rw [e, hg] at hv
     cases hv
     omega
    ·have := h.lt hg hv (by omega)
     omega
  ·rw [if_neg hlt]
   have e : hi = lo := by omega
   subst e
   exact ⟨h1, h2, by rw [Array.length_toList]; exact hs⟩
theorem FJ {xs : Array Nat} (h : Rsg xs.toList) (j : Nat) : Spl xs.toList j (SetTable.below xs j) := by
 unfold SetTable.below
 exact XG h j _ _ _ (by omega) (by omega) (Nat.le_refl _) (fun k v hk => absurd hk (by omega)) fun k v hk hv => by
  have := (List.getElem?_eq_some_iff.mp hv).1
  rw [Array.length_toList] at this
  omega
theorem Cn {xs : Array Nat} (h : Rsg xs.toList) {j : Nat} (hn : xs[SetTable.below xs j]? ≠ some j) : Rsg (SetTable.insertAt xs (SetTable.below xs j) j).toList := by
 obtain ⟨h1, h2, h3⟩ := FJ h j
 rw [SetTable.toList_insertAt]
 have hd : ∀ v ∈ xs.toList.drop (SetTable.below xs j), j < v := fun v hv => by
  obtain ⟨k, hk⟩ := List.mem_iff_getElem?.mp hv
  rw [List.getElem?_drop] at hk
  have l1 := h2 _ v (Nat.le_add_right _ k) hk
  by_cases e : k = 0
  ·rw [e, Nat.add_zero, Array.getElem?_toList] at hk
   rcases Nat.lt_or_eq_of_le l1 with z | z
   ·exact z
   ·rw [← z] at hk
    exact absurd hk hn
  ·have hb := (List.getElem?_eq_some_iff.mp hk).1
   have := h.lt (List.getElem?_eq_getElem (show SetTable.below xs j < xs.toList.length by omega)) hk (by omega)
   have := h2 _ _ (Nat.le_refl _) (List.getElem?_eq_getElem (show SetTable.below xs j < xs.toList.length by omega))
   omega
 have ht : ∀ u ∈ xs.toList.take (SetTable.below xs j), u < j := fun u hu => by
  obtain ⟨k, hk⟩ := List.mem_iff_getElem?.mp hu
  rw [List.getElem?_take] at hk
  split at hk
  ·exact h1 k u (by assumption) hk
  ·cases hk
 refine List.pairwise_append.mpr ⟨h.sublist (List.take_sublist _ _), List.pairwise_cons.mpr ⟨hd, h.sublist (List.drop_sublist _ _)⟩, fun u hu v hv => ?_⟩
 rcases List.mem_cons.mp hv with rfl | hv
 ·exact ht u hu
 ·exact Nat.lt_trans (ht u hu) (hd v hv)
structure TOk (bt : Bool) (t : SetTable) : Prop where
 led : t.led = !bt
 dm : t.dummies = #[]
 up : t.plain = true → Rsg t.place.toList
theorem R3 {t : SetTable} (h : t.dummies = #[]) (j : Nat) : t.slot j ≠ .dummy := by
 unfold SetTable.slot SetTable.has
 rw [h]
 dsimp only
 split
 ·exact fun e => nomatch e
 ·simp
theorem YB {t : SetTable} {f : Nat → Int} {h : Int} (hd : t.dummies = #[]) : ∀ (fuel : Nat) (p : SetTable.Probe), p.dummy = none → ∀ j d, SetTable.probe.go t f h fuel p = some (.empty j d) → d = none ∧ t.slot j = .empty
 | 0, p, _, j, d, e => by unfold SetTable.probe.go at e; cases e
 | fuel + 1, p, hp, j, d, e => by
  unfold SetTable.probe.go at e
  cases q : t.slot p.j with
  | empty =>
   rw [q] at e
   cases e
   exact ⟨hp, q⟩
  | dummy => exact absurd q (R3 hd _)
  | live i =>
   rw [q] at e
   dsimp only at e
   split at e
   ·cases e
   ·refine YB hd fuel _ ?_ j d e
    unfold SetTable.advance
    split
    ·exact hp
    ·exact hp
theorem MT {t : SetTable} {h : Int} {j : Nat} {b : Bool} (hd : t.dummies = #[]) (e : t.freeSlot h = some (j, b)) : t.place[SetTable.below t.place j]? ≠ some j := by
 unfold SetTable.freeSlot at e
 split at e
 ·rename_i j' d' q
  unfold SetTable.probe at q
  obtain ⟨rfl, hs⟩ := YB hd _ _ rfl _ _ q
  simp only [Option.getD_none, Option.isSome_none, Option.some.injEq, Prod.mk.injEq] at e
  obtain ⟨rfl, _⟩ := e
  unfold SetTable.slot at hs
  dsimp only at hs
  intro z
  rw [if_pos (by rw [z]; simp)] at hs
  cases hs
 ·cases e
theorem TOk.ZcA {bt : Bool} {t : SetTable} (h : TOk bt t) (n : Nat) : TOk bt (t.standIn n) := ⟨h.led, rfl, fun e => by simp [SetTable.standIn] at e⟩
theorem TOk.new {bt : Bool} {t : SetTable} (h : TOk bt t) (es : Array (Int × Value)) (k : Int) (x : Value) : TOk bt (layNew t es k x).2.1 := by
 unfold layNew
 split
 ·rename_i sl wd e
  have hn := MT h.dm e
  have hp : TOk bt (t.put sl).1 := by
   unfold SetTable.put
   refine ⟨h.led, ?_, fun e => Cn (h.up e) hn⟩
   show (if SetTable.has t.dummies sl = true then _ else t.dummies) = #[]
   rw [h.dm]
   split
   ·simp [SetTable.eraseAt]
   ·rfl
  dsimp only
  unfold SetTable.orStandIn
  split
  ·exact hp
  ·exact hp.ZcA _
 ·exact h.ZcA _
end DL
namespace DL
open PySem PySem.Spec PyProof.Rows L2 PySem.W
noncomputable def ZgV : Value → Int
 | .int i _ => i
 | _ => 0
abbrev ZcB := Array (Int × Value)
noncomputable def ZfT (es : ZcB) : List Int := es.toList.map fun e => ZgV e.2
structure Zf8 (P : Program) (w : World) (o : Obj) (es : ZcB) (t : SetTable) : Prop where
 ex : o.ExactSet
 dt : ∃ ep, o.data = .set es ep t
 el : ElemsOf (intKind P w) es.toList
 bd : es.size < scanBound
 ft : t.fits es.size = true
 ok : TOk (w.params.followText "set-order") t
 nd : (ZfT es).Nodup
def SI (P : Program) (w : World) (h : Heap) (a : Addr) (ks : List Int) : Prop := ∃ o es t, h.get? a = some o ∧ Zf8 P w o es t ∧ ks = ZfT es
section
variable {P : Program} {w : World} {A : Around} {E : Value → Shared → Prop} {s : Shared}
end
end DL
namespace DL
open PySem PySem.Spec PyProof.Rows L2 PySem.W
section
variable {P : Program} {w : World} {A : Around} {R : Result → Shared → Prop} {I : Addr} {fp wr : List Addr} {G : Array GenState → Array GenState → Prop} {n : Nat} {Pv : Nat → Value → Prop} {St : Nat → Shared → Prop}
end
section
variable {P : Program} {w : World} {A : Around} {E : Value → Shared → Prop} {s : Shared}
noncomputable def Zfb (w : World) : Obj := { cls := .type "set", dict := none, data := .set #[] 0 (.fresh 0 0 (!w.params.followText "set-order")) }
set_option maxHeartbeats 4000000 in
end
end DL
namespace DL
open PySem PySem.Spec PyProof.Rows L2 PySem.W
section
variable {P : Program} {w : World} {A : Around} {E : Value → Shared → Prop} {s : Shared}
abbrev Sy (h : Heap) (it : Addr) (first : Value) (i : Nat) (S : Addr) (n ep : Nat) : Prop :=
 h.get? it = some { cls := .type "set_iterator", dict := none, data := .fields #[first, rawInt i, .ref S, rawInt n, rawInt ep], slots := #[] }
def Md (w : World) (h : Heap) (first : Value) (i : Nat) (S : Addr) (es : ZcB) (ep : Nat) (t : SetTable) (L : List Value) : Prop :=
 (w.params.followText "set-order" = true ∧ first = rawInt 0 ∧ L = (pickOrder (w.params.setOrder S ep) es).toList.map (·.2)) ∨
 (w.params.followText "set-order" = false ∧ ∃ (T : Addr) (ps : List Nat), first = .ref T ∧ IsTup h T (ps.map fun p : Nat => rawInt (p : Int)).toArray ∧ ps.Perm (List.range es.size) ∧ L = ps.map fun p => (es.getD p (0, .none)).2) ∨
 (w.params.followText "set-order" = false ∧ first = rawInt (if i = 0 then 0 else t.place.getD (i - 1) 0 + 1) ∧ Rsg t.place.toList ∧ t.led = true ∧ (t.plain = true ∨ es.size ≤ 1) ∧ L = es.toList.map (·.2))
end
end DL
namespace DL
open PySem PySem.Spec PyProof.Rows L2 PySem.W
section
variable {P : Program} {w : World} {A : Around} {E : Value → Shared → Prop} {s : Shared}
def ZgF (w : World) (it S T : Addr) (es : ZcB) (ep : Nat) (t : SetTable) (L : List Value) (i : Nat) (h : Heap) : Prop :=
 ∃ first o, Sy h it first i S es.size ep ∧ h.get? S = some o ∧ o.data = .set es ep t ∧ t.fits es.size = true ∧ Md w h first i S es ep t L ∧ ∀ T', first = .ref T' → T' = T
theorem Md.keep {h h' : Heap} {first : Value} {i : Nat} {S : Addr} {es : ZcB} {ep : Nat} {t : SetTable} {L : List Value} (md : Md w h first i S es ep t L) (k : ∀ T, first = .ref T → ∀ o, h.get? T = some o → h'.get? T = some o) : Md w h' first i S es ep t L := by
 rcases md with md | ⟨bt, T, ps, e, ⟨o, g, r⟩, r'⟩ | md
 ·exact .inl md
 ·exact .inr (.inl ⟨bt, T, ps, e, ⟨o, k T e o g, r⟩, r'⟩)
 ·exact .inr (.inr md)
end
end DL
namespace DL
open PySem PySem.Spec PyProof.Rows L2 PySem.W
section
variable {P : Program} {w : World} {A : Around} {E : Value → Shared → Prop} {s : Shared}
end
theorem SI.nodup {P : Program} {w : World} {h : Heap} {a : Addr} {ks : List Int} (q : SI P w h a ks) : ks.Nodup := by
 obtain ⟨o, es, t, _, so, rfl⟩ := q
 exact so.nd
section
variable {P : Program} {w : World} {A : Around} {E : Value → Shared → Prop} {s : Shared}
end
section
variable {X : Cx} {e : Expr} {t : TA} {p pos p2 pos2 : Pos}
def tSS (X : Cx) (t : TA) : TE := fun σ H Q => t σ H fun xs H1 => ∃ (l : Addr) (ns : List Int), xs = [.ref l] ∧ SqL X.K H1 l (ns.map V.int) ∧ ns.length < 64 ∧ ∀ ks : List Int, ks.Pairwise (· ≤ ·) → ks.Nodup → (∀ z, z ∈ ks ↔ z ∈ ns) → ∀ l, H1 l = none → Q (.ref l) (upd H1 l (.lst (ks.map V.int)))
def dSS (t : DTA) : DTE := fun Δ M Φ => t Δ M fun xs M1 => ∃ ns : List Int, Jy xs M1 ns ∧ ns.length < 64 ∧ ∀ ks : List Int, ks.Pairwise (· ≤ ·) → ks.Nodup → (∀ z, z ∈ ks ↔ z ∈ ns) → Φ (.dat (.list (ks.map PyData.int))) M1
end
end DL
namespace DL
open PySem PySem.Spec PyProof.Rows L2
section
variable {X : Cx}
def Zg8 (τ : DTE) : DTT := fun Δ M Φ => τ Δ M fun x M1 => onQ x M1 fun ds => Φ (!ds.isEmpty) M1
end
end DL
namespace DL
open PySem PySem.Spec PyProof.Rows L2 PySem.W
structure Gives (it l : Addr) (xs : Array Value) (st : Nat → Heap → Prop) : Prop where
 frame : ∀ {i : Nat} {h h' : Heap}, st i h → (∀ b, b = it ∨ b = l → ∀ o, h.get? b = some o → h'.get? b = some o) → st i h'
 live : ∀ {i : Nat} {h : Heap}, st i h → ∃ o, h.get? it = some o
 item : ∀ {prog : Program} {w : World} {A : Around} {E : Value → Shared → Prop} {s : Shared} {Q : Value → Shared → Prop} {i : Nat} {x : Value}, st i s.heap → xs[i]? = some x →
  (∀ h', st (i + 1) h' → Heap.SameBut it s.heap h' → Q x { s with heap := h' }) → wpAny (model prog w) A (Builtin.SmallTypes.nextOf (.ref it)) Q E s
 done : ∀ {prog : Program} {w : World} {A : Around} {E : Value → Shared → Prop} {s : Shared} {Q : Value → Shared → Prop} {i : Nat}, A.handled = none → st i s.heap → xs[i]? = none →
  (∀ h' e, Heap.ExtBut it s.heap h' → (∃ o, h'.get? e = some o ∧ o.cls = .type "StopIteration") → E (.ref e) { s with heap := h' }) → wpAny (model prog w) A (Builtin.SmallTypes.nextOf (.ref it)) Q E s
def Zhr (a b c d : Addr) (h h' : Heap) : Prop := ∀ x o, x ≠ a → x ≠ b → x ≠ c → x ≠ d → h.get? x = some o → h'.get? x = some o
section
variable {prog : Program} {w : World} {A : Around} {E : Value → Shared → Prop} {s : Shared} {z TI TO p q l m : Addr} {xs ys : Array Value} {f g : Nat → Heap → Prop} {i j : Nat}
end
noncomputable abbrev zt1 (h : Heap) (l : Addr) : Heap := h.push { cls := .type "tuple_iterator", data := .fields #[.ref l, .int 0 0] }
noncomputable abbrev zt2 (h : Heap) (l m : Addr) : Heap := (zt1 h l).push { cls := .type "list_iterator", data := .fields #[.ref m, .int 0 0] }
noncomputable abbrev zt3 (h : Heap) (l m : Addr) : Heap := (zt2 h l m).push { cls := .type "tuple", data := .seq #[.ref h.objs.size, .ref (zt1 h l).objs.size] }
noncomputable abbrev zt4 (h : Heap) (l m : Addr) : Heap := (zt3 h l m).push { cls := .type "tuple", data := .seq #[.none, .none] }
noncomputable abbrev zt5 (h : Heap) (l m : Addr) : Heap := (zt4 h l m).push { cls := .type "zip", data := .fields #[.none, .bool false, .bool false, .ref (zt2 h l m).objs.size, .ref (zt3 h l m).objs.size] }
section
variable {prog : Program} {w : World} {A : Around} {E : Value → Shared → Prop} {s : Shared}
end
noncomputable def Zf2 (K : PySem.W.Frag) (a b : Addr) : It :=
  ⟨fun i H => ∃ xs ys x y, SqT K H a xs ∧ xs[i]? = some x ∧ SqL K H b ys ∧ ys[i]? = some y,
   fun i H v H' => ∃ T x y, (∀ xs, SqT K H a xs → xs[i]? = some x) ∧ (∀ ys, SqL K H b ys → ys[i]? = some y) ∧ H T = none ∧ v = .ref T ∧ H' = upd H T (.tup [x, y]),
   fun i H => ∃ xs ys, SqT K H a xs ∧ SqL K H b ys ∧ (xs.length ≤ i ∨ ys.length ≤ i)⟩
def Zg7 (a b : Addr) (n : Nat) (i : Nat) (h : Heap) : Prop :=
 IsZip h (n + 4) (n + 2) (n + 3) .none ∧ IsPair h (n + 2) (.ref n) (.ref (n + 1)) ∧ (∃ u v, IsPair h (n + 3) u v) ∧ h.IsTupleIter n a i ∧ h.IsListIter (n + 1) b i
section
variable {X : Cx}
def Zgk (K : PySem.W.Frag) (ta : TA) : TI := fun σ H R => ta σ H fun vs H1 => ∃ a b, vs = [.ref a, .ref b] ∧ (∃ xs, SqT K H1 a xs) ∧ (∃ ys, SqL K H1 b ys) ∧ R (Zf2 K a b) H1
def ZfY (ta : DTA) : Y2 := fun Δ M Ψ => ta Δ M fun xs M1 => on2 xs fun x y => onT x fun as => onL y fun bs => Ψ (HN as bs) M1
end
end DL
namespace DL
open PySem PySem.Spec PyProof.Rows L2 PySem.W
section
variable {X : Cx} {tg iter : Expr} {g : DTG} {tb : DTS} {body : List Stmt} {pos : Pos}
def Zf4 (src : Y2) (g : DTG) (tb : DTS) : DTS := fun D Δ M => src Δ M fun ds M1 => B9 g tb D ds Δ M1
def ZfF (K : PySem.W.Frag) : V → List V → Hp → VK → Prop := fun x vs H Q => ∃ (l : Addr) (ss : List Str) (t : Str), x = .ref l ∧ vs = [V.str t] ∧ SqL K H l (List.map V.str ss) ∧ t ∈ ss ∧ Q (.int (ss.idxOf t : Nat)) H
def Ww (ds : List PyData) (P : List Str → Prop) : Prop := ∃ ss, ds = ss.map PyData.str ∧ P ss
theorem Kx {K : PySem.W.Frag} {M : Mp} {H : Hp} : ∀ {vs : List V} {ss : List Str}, Dts K M H vs (ss.map PyData.str) → vs = ss.map V.str
 | vs, [], h => by
  rw [List.map_nil] at h
  cases h
  rfl
 | vs, n :: ns, h => by
  rw [List.map_cons] at h
  cases h with
  | cons h1 h2 =>
   cases h1
   rw [Kx h2, List.map_cons]
def Zg4 (to te : DTE) : DTE := fun Δ M Φ => to Δ M fun x M1 => onL x fun ds => te Δ M1 fun y M2 => onS y fun t => Ww ds fun ss => t ∈ ss ∧ Φ (.dat (.int (ss.idxOf t : Nat))) M2
def ZgW (x : DV) (P : List PyData → Prop) : Prop := match x with | .dat (.tuple ds) => P ds | .dat (.list ds) => P ds | _ => False
def iTL (K : PySem.W.Frag) (tl : TE) : TI := fun σ H R => tl σ H fun x H1 => ∃ a, x = .ref a ∧ (((∃ xs, SqL K H1 a xs) ∧ R (Itl K a) H1) ∨ (∃ xs, SqT K H1 a xs) ∧ R (Itt K a) H1)
def Zgb (te : DTE) : Y2 := fun Δ M Ψ => te Δ M fun x M1 => ZgW x fun ds => Ψ ds M1
end
end DL
namespace DL
open PySem PySem.Spec PyProof.Rows L2
noncomputable def ZdH (X : Cx) (scope : Scope) (k : Str) (C : Addr) (N : List Str) (ex : List Addr) (s : Shared) (H : Hp) : Cx :=
 { X with N := N, s₀ := s, H₀ := H, env := compEnvC scope ((k, C + 1) :: CH X.env scope.names []) C X.env, outer := X.stack, ex := ex, fn := fun x => x == k, pn := [], xe := fun _ _ => False }
structure ZeW (X : Cx) (scope : Scope) (k : Str) (N : List Str) (ix : List (Option Nat)) : Prop where
 kind : scope.kind = .function
 cf : ∀ n cl, cellsFrom n scope.names cl = (k, n) :: cl
 pc : ∀ h, pushCells h scope.names = h.push { cls := .type "cell", data := .cell none }
 cellK : ∀ y ∈ scope.names, y.2 = .cell → y.1 = k
 nk : ∀ y ∈ scope.names, y.2 = .free → y.1 ≠ k
 names : ∀ y ∈ scope.names, y.2 = .local → scope.names.lookup y.1 = some .local
 free : ∀ y ∈ scope.names, y.2 = .free → X.env.kindOf y.1 = some .cell
 len : N.length = ix.length
 cap : ∀ (j : Nat) (x : Str) (i : Nat), N[j]? = some x → ix[j]? = some (some i) → X.N[i]? = some x ∧ (x, NameKind.free) ∈ scope.names ∧ (relabel scope X.env).names.lookup x = some .cell
section
variable {X : Cx} {pins : List (Addr × Obj)} {σ : L2.St} {H2 : Hp} {s2 : Shared} {scope : Scope} {k : Str} {N : List Str} {ix : List (Option Nat)} {C : Addr} {fp : List Addr}
end
section
variable {X : Cx}
set_option maxHeartbeats 2000000 in
end
end DL
namespace DL
open PySem PySem.Spec PyProof.Rows L2 PySem.W
def Oh (o : Option OO) (P : List (Key × DV) → Prop) : Prop := match o with | some (.dko ps) => P ps | _ => False
theorem FW (ps : List (Key × DV)) (P : List (Key × DV) → Prop) : Oh (some (.dko ps)) P = P ps := propext Iff.rfl
theorem ET {o : Option OO} {P : List (Key × DV) → Prop} (h : Oh o P) : ∃ ps, o = some (.dko ps) ∧ P ps := by
 unfold Oh at h
 split at h
 ·exact ⟨_, rfl, h⟩
 ·exact h.elim
noncomputable def VT (ps : List (Key × DV)) (k : Key) : Option DV := (ps.find? fun p => decide (p.1 = k)).map (·.2)
noncomputable def Gz (ps : List (Key × DV)) (k : Key) (x : DV) : List (Key × DV) := if (ps.any fun p => decide (p.1 = k)) = true then ps.map (fun p => if p.1 = k then (p.1, x) else p) else ps ++ [(k, x)]
section
variable {K : PySem.W.Frag} {M : Mp} {H : Hp}
abbrev KO (K : PySem.W.Frag) (M : Mp) (H : Hp) : List (Key × V) → List (Key × DV) → Prop := Paired fun (p : Key × V) (q : Key × DV) => p.1 = q.1 ∧ VR0 K M H p.2 q.2
theorem VR0.rel {v : V} {x : DV} (h : VR0 K M H v x) : Qd K M H v x := by
 cases x with
 | dat d => exact h
 | own b => exact h
 | ty n => exact h.elim
theorem ZcM {kvs : List (Key × V)} {ps : List (Key × DV)} (h : KO K M H kvs ps) (k : Key) : (kvs.any fun p => decide (p.1 = k)) = ps.any fun p => decide (p.1 = k) := by
 induction h with
 | nil => rfl
 | @cons p q ps qs h1 h2 ih => rw [List.any_cons, List.any_cons, ih, h1.1]
theorem Zb1 {kvs : List (Key × V)} {ps : List (Key × DV)} (h : KO K M H kvs ps) (k : Key) {x : DV} (e : VT ps k = some x) : ∃ v, V7 kvs k = some v ∧ VR0 K M H v x := by
 induction h with
 | nil => cases e
 | @cons p q ps qs h1 h2 ih =>
  unfold VT at e
  unfold V7
  by_cases z : q.1 = k
  ·rw [List.find?_cons_of_pos (by simpa using z)] at e
   rw [List.find?_cons_of_pos (by simpa using h1.1.trans z)]
   cases e
   exact ⟨p.2, rfl, h1.2⟩
  ·rw [List.find?_cons_of_neg (by simpa using z)] at e
   rw [List.find?_cons_of_neg (by simpa using fun y => z (h1.1.symm.trans y))]
   exact ih e
theorem S0 {kvs : List (Key × V)} {ps : List (Key × DV)} (h : KO K M H kvs ps) (k : Key) {v : V} {x : DV} (hv : VR0 K M H v x) : KO K M H (kvs.map fun p => if p.1 = k then (p.1, v) else p) (ps.map fun p => if p.1 = k then (p.1, x) else p) := by
 induction h with
 | nil => exact .nil
 | @cons p q ps qs h1 h2 ih =>
  refine .cons ?_ ih
  dsimp only
  by_cases z : q.1 = k
  ·rw [if_pos z, if_pos (h1.1.trans z)]
   exact ⟨h1.1, hv⟩
  ·rw [if_neg z, if_neg fun y => z (h1.1.symm.trans y)]
   exact h1
theorem Zap {kvs : List (Key × V)} {ps : List (Key × DV)} (h : KO K M H kvs ps) (k : Key) {v : V} {x : DV} (hv : VR0 K M H v x) : KO K M H (putK kvs k v) (Gz ps k x) := by
 unfold putK Gz
 rw [ZcM h k]
 split
 ·exact S0 h k hv
 ·exact Paired.snoc h ⟨rfl, hv⟩
theorem O1 {kvs : List (Key × V)} {ps : List (Key × DV)} (h : KO K M H kvs ps) : kvs.length = ps.length := by
 induction h with
 | nil => rfl
 | cons h1 h2 ih => rw [List.length_cons, List.length_cons, ih]
theorem RT {kvs : List (Key × V)} {ps : List (Key × DV)} (h : KO K M H kvs ps) : kvs.map (·.1) = ps.map (·.1) := by
 induction h with
 | nil => rfl
 | cons h1 h2 ih => rw [List.map_cons, List.map_cons, ih, h1.1]
theorem S3 {M' : Mp} {H' : Hp} {kvs : List (Key × V)} {ps : List (Key × DV)} (h : KO K M H kvs ps) (st : Step M H M' H') : KO K M' H' kvs ps := Paired.TK h fun _ _ z => ⟨z.1, z.2.step st⟩
theorem ZK.ko (r : ZK K M H) {a : Addr} {ps : List (Key × DV)} (h : M a = some (.dko ps)) : ∃ kvs, H a = some (.dK kvs) ∧ KO K M H kvs ps := r.ok a _ h
theorem ZK.Sv (r : ZK K M H) {p : Addr} {kvs : List (Key × V)} {ps : List (Key × DV)} (st : Step M H (Zv M p (.dko ps)) (upd H p (.dK kvs))) (h : KO K M H kvs ps) : ZK K (Zv M p (.dko ps)) (upd H p (.dK kvs)) :=
 r.G9 st ⟨kvs, Z8, S3 h st⟩
theorem Qd.zero {v : V} {x : DV} (h : Qd K M H v x) (n : ∀ t, x ≠ .ty t) : VR0 K M H v x := by
 cases x with
 | dat d => exact h
 | own b => exact h
 | ty t => exact absurd rfl (n t)
end
section
variable {X : Cx} {o i value : Expr} {td ti tv : DTE} {pos pos' : Pos}
def OU (x : DV) (P : Prop) : Prop := match x with | .ty _ => False | _ => P
theorem LA (d : PyData) (P : Prop) : OU (.dat d) P = P := propext Iff.rfl
theorem NN (a : Addr) (P : Prop) : OU (.own a) P = P := propext Iff.rfl
theorem FK {x : DV} {P : Prop} (h : OU x P) : (∀ t, x ≠ .ty t) ∧ P := by
 cases x with
 | dat d => exact ⟨fun t e => (by cases e), h⟩
 | own a => exact ⟨fun t e => (by cases e), h⟩
 | ty t => exact h.elim
def Zaj (td ti tv : DTE) : DTS := fun D Δ M => tv Δ M fun x M1 => td Δ M1 fun y M2 => ti Δ M2 fun z M3 => OU x (onO y fun l => onS z fun s => Oh (M3 l) fun ps => ps.length < sizeLine ∧ D.nx Δ (Zv M3 l (.dko (Gz ps (.inr s) x))))
theorem Sj (td ti tv : DTE) (D : Qe) (Δ : DSt) (M : Mp) : Zaj td ti tv D Δ M = (tv Δ M fun x M1 => td Δ M1 fun y M2 => ti Δ M2 fun z M3 => OU x (onO y fun l => onS z fun s => Oh (M3 l) fun ps => ps.length < sizeLine ∧ D.nx Δ (Zv M3 l (.dko (Gz ps (.inr s) x))))) := propext Iff.rfl
theorem Eu {k : Nat} (hr : Ji k X.A) (ho : DE X o td) (hi : DE X i ti) (hv : DE X value tv) (hs : autoParam (swapsWith value (some (.Subscript o i pos')) pos.line X.env = pure false) zz3._auto_1) : DS X (.Assign [.Subscript o i pos'] value pos) (Zaj td ti tv) := by
 obtain ⟨t1, p1, q1⟩ := hv
 obtain ⟨t2, p2, q2⟩ := ho
 obtain ⟨t3, p3, q3⟩ := hi
 refine ⟨_, EC (by have := hr.un; omega) p2 p3 p1 hs, fun σ H Δ M D E r e h k => ?_⟩
 refine q1 σ H Δ M _ _ r e h fun v H1 x M1 r1 st1 rv hx => ?_
 refine q2 σ H1 Δ M1 _ _ r1 (e.step st1) hx fun w H2 y M2 r2 st2 rw2 hy => ?_
 refine q3 σ H2 Δ M2 _ _ r2 (e.step (st1.trans st2)) hy fun u H3 z M3 r3 st3 ru hz => ?_
 replace hz := FK hz
 obtain ⟨nt, hz⟩ := hz
 replace hz := ZU hz
 obtain ⟨l, rfl, hz⟩ := hz
 replace hz := Jm hz
 obtain ⟨s, rfl, hz⟩ := hz
 obtain ⟨ps, hm, hl, hn⟩ := ET hz
 cases (show w = .ref l from rw2)
 cases ru.str
 obtain ⟨kvs, g1, g2⟩ := r3.ko hm
 have dv : VR0 X.K M3 H3 v x := (rv.step (st2.trans st3)).zero nt
 refine ⟨l, _, rfl, LS.k (k := .inr s) g1 (by rw [O1 g2]; exact hl), ?_⟩
 have st4 : Step M3 H3 (Zv M3 l (.dko (Gz ps (.inr s) x))) (upd H3 l (.dK (putK kvs (.inr s) v))) := Step.VL hm
 have stA := st1.trans (st2.trans (st3.trans st4))
 exact k.nx _ _ _ _ (r3.Sv st4 (Zap g2 _ dv)) stA (e.step stA) hn
def Zas (td ti : DTE) : DTE := fun Δ M Φ => td Δ M fun x M1 => ti Δ M1 fun y M2 => onO x fun l => onS y fun s => Oh (M2 l) fun ps => ∃ z, VT ps (.inr s) = some z ∧ Φ z M2
theorem RH (td ti : DTE) (Δ : DSt) (M : Mp) (Φ : DK) : Zas td ti Δ M Φ = (td Δ M fun x M1 => ti Δ M1 fun y M2 => onO x fun l => onS y fun s => Oh (M2 l) fun ps => ∃ z, VT ps (.inr s) = some z ∧ Φ z M2) := propext Iff.rfl
theorem QX {k : Nat} (hr : Ji k X.A) (ho : DE X o td) (hi : DE X i ti) (hs : autoParam (ZbS i) zz7._auto_1) : DE X (.Subscript o i pos) (Zas td ti) := by
 obtain ⟨t1, p1, q1⟩ := ho
 obtain ⟨t2, p2, q2⟩ := hi
 refine ⟨_, Uu (by have := hr.un; omega) p1 p2 hs, fun σ H Δ M Φ Q r e h k => ?_⟩
 refine q1 σ H Δ M _ _ r e h fun v H1 x M1 r1 st1 rv hx => ?_
 refine q2 σ H1 Δ M1 _ _ r1 (e.step st1) hx fun w H2 y M2 r2 st2 rw2 hy => ?_
 replace hy := ZU hy
 obtain ⟨l, rfl, hy⟩ := hy
 replace hy := Jm hy
 obtain ⟨s, rfl, hy⟩ := hy
 obtain ⟨ps, hm, z, hd, q⟩ := ET hy
 cases (show v = .ref l from rv)
 cases rw2.str
 obtain ⟨kvs, g1, g2⟩ := r2.ko hm
 obtain ⟨u, a, du⟩ := Zb1 g2 (.inr s) hd
 exact ⟨l, u, rfl, by rw [← a]; exact KL.k (k := .inr s) g1, k _ _ z _ r2 (st1.trans st2) du.rel q⟩
def Wt : List (DV × DV) → (List (Key × DV) → Prop) → Prop
 | [], P => P []
 | (x, y) :: r, P => Vh x fun k => OU y (Wt r fun l => P ((k, y) :: l))
theorem Uy (P : List (Key × DV) → Prop) : Wt [] P = P [] := propext Iff.rfl
theorem WL (x y : DV) (r : List (DV × DV)) (P : List (Key × DV) → Prop) : Wt ((x, y) :: r) P = (Vh x fun k => OU y (Wt r fun l => P ((k, y) :: l))) := propext Iff.rfl
theorem BM : ∀ {qs : List (DV × DV)} {P : List (Key × DV) → Prop}, Wt qs P → ∃ l, qs = l.map (fun kd => (DV.dat (kD kd.1), kd.2)) ∧ (∀ p ∈ l, ∀ t, p.2 ≠ .ty t) ∧ P l
 | [], P, h => ⟨[], rfl, fun _ z => (nomatch z), h⟩
 | (x, y) :: r, P, h => by
  obtain ⟨k, rfl, h1⟩ := L5 (show Vh x fun k => OU y (Wt r fun l => P ((k, y) :: l)) from h)
  obtain ⟨n, h2⟩ := FK h1
  obtain ⟨l, rfl, n2, h3⟩ := BM h2
  refine ⟨(k, y) :: l, rfl, fun p hp => ?_, h3⟩
  rcases List.mem_cons.mp hp with rfl | hp
  ·exact n
  ·exact n2 p hp
theorem BE {K : PySem.W.Frag} {M : Mp} {H : Hp} : ∀ {l : List (Key × DV)} {ps : List (V × V)}, (∀ p ∈ l, ∀ t, p.2 ≠ .ty t) → Paired (fun (p : V × V) (q : DV × DV) => Qd K M H p.1 q.1 ∧ Qd K M H p.2 q.2) ps (l.map fun kd => (DV.dat (kD kd.1), kd.2)) →
  ∃ kvs : List (Key × V), ps = kvs.map (fun kv => (kV kv.1, kv.2)) ∧ KO K M H kvs l
 | [], ps, _, h => by rw [List.map_nil] at h; cases h; exact ⟨[], rfl, .nil⟩
 | (k, d) :: l, ps, n, h => by
  rw [List.map_cons] at h
  cases h with
  | @cons p q ps' qs' h1 h2 =>
   obtain ⟨kvs, rfl, hk⟩ := BE (fun p hp => n p (List.mem_cons_of_mem _ hp)) h2
   obtain ⟨p1, p2⟩ := p
   have e : p1 = kV k := Zgd h1.1
   exact ⟨(k, p2) :: kvs, by rw [e]; rfl, .cons ⟨rfl, h1.2.zero (n _ List.mem_cons_self)⟩ hk⟩
def Oi (t : DTP) : DTE := fun Δ M Φ => ∀ p, M p = none → t Δ (Zv M p (.dko [])) fun qs M2 => Wt qs fun l => M2 p = some (.dko []) ∧ ((l.map (·.1)).Nodup ∧ l.length ≤ 15) ∧ Φ (.own p) (Zv M2 p (.dko l))
theorem LI (t : DTP) (Δ : DSt) (M : Mp) (Φ : DK) : Oi t Δ M Φ = (∀ p, M p = none → t Δ (Zv M p (.dko [])) fun qs M2 => Wt qs fun l => M2 p = some (.dko []) ∧ ((l.map (·.1)).Nodup ∧ l.length ≤ 15) ∧ Φ (.own p) (Zv M2 p (.dko l))) := propext Iff.rfl
theorem BV {keys : List (Option Expr)} {values : List Expr} {t : DTP} (h : DPs X pos keys values t) (hall : autoParam (keys.all (·.isSome) = true) zz3._auto_1) (hl : autoParam (keys.length = values.length) zz3._auto_1) (h0 : autoParam (keys ≠ []) zz9._auto_1)
  (h15 : autoParam (keys.length ≤ 15) zz1._auto_1) : DE X (.Dict keys values pos) (Oi t) := by
 obtain ⟨trs, p, _, q⟩ := h
 refine ⟨_, PR p hall hl h0 h15, fun σ H Δ M Φ Q r e h k a ha => ?_⟩
 have ma := r.tracked ha
 have r0 : ZK X.K (Zv M a (.dko [])) (upd H a (.dK [])) := r.Sv (kvs := []) (ps := []) (Step.Q4 ha) .nil
 have s0 : Step M H (Zv M a (.dko [])) (upd H a (.dK [])) := Step.Q4 ha
 refine q σ _ Δ _ _ _ r0 (e.step s0) (h a ma) fun ps H2 qs M2 r2 st2 rp hq => ?_
 obtain ⟨l, rfl, nt, m2, ⟨nd, l15⟩, f⟩ := BM hq
 obtain ⟨kvs, rfl, hk⟩ := BE nt rp
 obtain ⟨kvs0, g0, k0⟩ := r2.ko m2
 cases k0
 refine ⟨g0, kvs, rfl, by rw [O1 hk]; exact l15, ?_⟩
 rw [B7 kvs (by rw [RT hk]; exact nd)]
 have s3 : Step M2 H2 (Zv M2 a (.dko l)) (upd H2 a (.dK kvs)) := Step.VL m2
 exact k _ _ (.own a) _ (r2.Sv s3 hk) ((s0.trans st2).trans s3) rfl f
end
end DL
namespace DL
open PySem PySem.Spec PyProof.Rows L2 PySem.W
section
open PySem.SeqAt
open PySem.AutoSeq1 (wpAny_loadPart')
open PySem.MeetsSeq PySem.MeetsSeq2 PySem.MeetsSeq3
theorem Y6 (l b : Addr) (vs ws : List Value) (n n2 : Nat) (dd dd2 : Option Addr) (sl sl2 : Array (Option Value)) (x y : Str) (t u : Tok) (ne : x ≠ y) :
  Meets (Builtin.«tuple.__lt__» ⟨[.ref l, .ref b], []⟩) (fun _ R s => s.heap.get? l = some { cls := .type "tuple", dict := dd, data := .seq (Value.str x t :: vs).toArray n, slots := sl } ∧
   s.heap.get? b = some { cls := .type "tuple", dict := dd2, data := .seq (Value.str y u :: ws).toArray n2, slots := sl2 } ∧ R (.ok (.ret (.bool (decide (x.cps.toList < y.cps.toList))))) s) :=
 .of_wp fun prog w A R s h => by
  obtain ⟨hp, g, d, tk, os⟩ := s
  obtain ⟨hl, hb, h⟩ := h
  have f2 := AutoSeq1.sub_tuple_tuple
  wp_walk using wpAny_loadPart' hl, wpAny_loadPart' hb, wpAny_forIn_list _ (fun rest b s' => b.1 = none ∧ s' = ⟨hp, g, d, tk, os⟩ ∧ rest = (Value.str x t, Value.str y u) :: vs.zip ws) _
  case turn =>
   rintro ⟨p, q⟩ rest b s' ⟨hb', rfl, hz⟩
   injection hz with hpq hr
   injection hpq with e1 e2
   subst e1 e2
   have he := EqAt.str_str (A := A.in1) (s := ⟨hp, g, d, tk, os⟩) x t y u
   rw [show (x == y) = false from beq_eq_false_iff_ne.mpr ne] at he
   refine wpAny_bind (he prog w _ _ ?_)
   have hri : ∀ (E' : Value → Shared → Prop) (Q : Value → Shared → Prop), Q (.bool (decide (x.cps.toList < y.cps.toList))) ⟨hp, g, d, tk, os⟩ → wpAny (model prog w) A.in1 (richCompare .Lt (.str x t) (.str y u)) Q E' ⟨hp, g, d, tk, os⟩ := fun E' Q q => PyProof.Rows.lt_str q
   wp_walk using hri
   exact ⟨_, rfl, by simpa using h⟩
  case fin =>
   rintro ⟨b1, b2⟩ s' ⟨_, _, hz⟩
   cases hz
  case h =>
   exact ⟨rfl, rfl, by simp⟩
theorem Y1 (l b : Addr) (vs ws : List Value) (n n2 : Nat) (dd dd2 : Option Addr) (sl sl2 : Array (Option Value)) (x y : Str) (t u : Tok) (ne : x ≠ y) :
  Meets (Builtin.«tuple.__eq__» ⟨[.ref l, .ref b], []⟩) (fun _ R s => s.heap.get? l = some { cls := .type "tuple", dict := dd, data := .seq (Value.str x t :: vs).toArray n, slots := sl } ∧
   s.heap.get? b = some { cls := .type "tuple", dict := dd2, data := .seq (Value.str y u :: ws).toArray n2, slots := sl2 } ∧ R (.ok (.ret (.bool false))) s) :=
 .of_wp fun prog w A R s h => by
  obtain ⟨hp, g, d, tk, os⟩ := s
  obtain ⟨hl, hb, h⟩ := h
  have f2 := AutoSeq1.sub_tuple_tuple
  wp_walk using wpAny_loadPart' hl, wpAny_loadPart' hb, wpAny_forIn_list _ (fun rest b s' => b.1 = none ∧ s' = ⟨hp, g, d, tk, os⟩ ∧ rest = (Value.str x t, Value.str y u) :: vs.zip ws) _
  case turn =>
   rintro ⟨p, q⟩ rest b s' ⟨hb', rfl, hz⟩
   injection hz with hpq hr
   injection hpq with e1 e2
   subst e1 e2
   have he := EqAt.str_str (A := A.in1) (s := ⟨hp, g, d, tk, os⟩) x t y u
   rw [show (x == y) = false from beq_eq_false_iff_ne.mpr ne] at he
   refine wpAny_bind (he prog w _ _ ?_)
   wp_walk
   exact ⟨_, rfl, by simpa using h⟩
  case fin =>
   rintro ⟨b1, b2⟩ s' ⟨_, _, hz⟩
   cases hz
  case h =>
   exact ⟨rfl, rfl, by simp⟩
variable {prog : Program} {w : World} {A : Around} {E : Value → Shared → Prop} {s : Shared}
theorem Mc {l b : Addr} {vs ws : List Value} {x y : Str} {t u : Tok} {Q : Value → Shared → Prop} (hl : IsTup s.heap l (Value.str x t :: vs).toArray) (hb : IsTup s.heap b (Value.str y u :: ws).toArray) (ne : x ≠ y) (hu : A.units < cLine)
  (h : Q (.bool (decide (x.cps.toList < y.cps.toList))) s) : wpAny (model prog w) A (compareOp .Lt (.ref l) (.ref b)) Q E s := by
 obtain ⟨⟨cls, dd, data, sl⟩, ho, hc, n, hd⟩ := id hl
 obtain ⟨⟨cls2, dd2, data2, sl2⟩, ho2, hc2, n2, hd2⟩ := id hb
 simp only at hc hd hc2 hd2
 subst hc hd hc2 hd2
 exact richCompare_meets_room (op := .Lt) ⟨_, ho, rfl⟩ ⟨_, ho2, rfl⟩ PySem.F.slot_tuple_lt PySem.F.entry_tuple_lt (PySem.F.args_tuple_lt_2 _ _) (Y6 l b vs ws n n2 dd dd2 sl sl2 x y t u ne)
  ⟨ho, ho2, show Value.bool (decide (x.cps.toList < y.cps.toList)) ≠ Value.notImplemented ∧ Q _ s from ⟨(fun x => nomatch x), h⟩⟩ hu
theorem Ml {l b : Addr} {vs ws : List Value} {x y : Str} {t u : Tok} (hl : IsTup s.heap l (Value.str x t :: vs).toArray) (hb : IsTup s.heap b (Value.str y u :: ws).toArray) (ne : x ≠ y) (hu : A.units < cLine) : EqAt A s (.ref l) (.ref b) false := by
 obtain ⟨⟨cls, dd, data, sl⟩, ho, hc, n, hd⟩ := id hl
 obtain ⟨⟨cls2, dd2, data2, sl2⟩, ho2, hc2, n2, hd2⟩ := id hb
 simp only at hc hd hc2 hd2
 subst hc hd hc2 hd2
 refine EqAt.of_refs (fun e => ?_) fun prog w E Q hq => richCompare_meets_room (op := .Eq) ⟨_, ho, rfl⟩ ⟨_, ho2, rfl⟩ PySem.F.slot_tuple_eq PySem.F.entry_tuple_eq (PySem.F.args_tuple_eq_2 _ _) (Y1 l b vs ws n n2 dd dd2 sl sl2 x y t u ne)
  ⟨ho, ho2, show Value.bool false ≠ Value.notImplemented ∧ Q _ s from ⟨(fun x => nomatch x), hq⟩⟩ hu
 rw [e, ho2] at ho
 injection ho with ho
 injection ho with _ _ h3
 injection h3 with h3
 simp at h3
 exact ne h3.1.1.symm
end
noncomputable def HV : PyData → Option (Int × Str)
 | .tuple [.int i, .tuple (.str s :: _)] => some (i, s)
 | _ => none
theorem Pe {d : PyData} {n : Int} {s : Str} (h : HV d = some (n, s)) : ∃ r, d = .tuple [.int n, .tuple (.str s :: r)] := by
 unfold HV at h
 split at h
 ·cases h
  exact ⟨_, rfl⟩
 ·cases h
noncomputable def RE (ks : List (Int × Str)) (i j : Nat) : Bool := decide ((ks.getD i (0, Str.empty)).1 < (ks.getD j (0, Str.empty)).1 ∨ (ks.getD i (0, Str.empty)).1 = (ks.getD j (0, Str.empty)).1 ∧ (ks.getD i (0, Str.empty)).2.cps.toList < (ks.getD j (0, Str.empty)).2.cps.toList)
theorem Bg (ks : List (Int × Str)) : Ord (RE ks) := by
 refine ⟨fun a b h => ?_, fun a b c h1 h2 => ?_⟩
 ·have h' := of_decide_eq_true h
  refine decide_eq_false fun z => ?_
  rcases h' with h' | ⟨e1, h'⟩
  ·omega
  ·rcases z with z | ⟨_, z⟩
   ·omega
   ·exact absurd (List.lt_trans h' z) (List.lt_irrefl _)
 ·have h1' := of_decide_eq_false h1
  have h2' := of_decide_eq_false h2
  refine decide_eq_false fun z => ?_
  generalize ks.getD a (0, Str.empty) = x at *
  generalize ks.getD b (0, Str.empty) = y at *
  generalize ks.getD c (0, Str.empty) = w at *
  have q1 : ¬ y.1 < x.1 := fun q => h1' (.inl q)
  have q2 : ¬ w.1 < y.1 := fun q => h2' (.inl q)
  rcases z with z | ⟨e, z⟩
  ·omega
  ·have e1 : y.1 = x.1 := by omega
   have e2 : w.1 = y.1 := by omega
   have a1 := List.not_lt.mp fun q => h1' (.inr ⟨e1, q⟩)
   have a2 := List.not_lt.mp fun q => h2' (.inr ⟨e2, q⟩)
   exact absurd z (List.not_lt.mpr (List.le_trans a1 a2))
section
variable {X : Cx}
def Zbo (K : PySem.W.Frag) : List V → Hp → VK → Prop := fun xs H Q => ∃ (p : Addr) (M : Mp) (vs : List V) (ds : List PyData) (ks : List (Int × Str)), xs = [.ref p] ∧ SqL K H p vs ∧ Dts K M H vs ds ∧ ds.map HV = ks.map some ∧ ks.Nodup ∧ ds.length < 64 ∧
 ∀ q, Pm ds.length q → Up (RE ks) q ds.length → ∀ l, H l = none → Q (.ref l) (upd H l (.lst (q.toList.map fun i => vs.getD i .non)))
theorem K9 {kk : Nat} (hr : Ji kk X.A) : QF X (.builtin "sorted") (Zbo X.K) := by
 intro pins s σ H xs us Q I r h
 obtain ⟨p, M, vs, ds, ks, rfl, hq, hd, hk, nd, few, q⟩ := h
 obtain ⟨u, rfl, rx⟩ := vals1 r
 cases rx
 obtain ⟨its, rv, pl, _⟩ := I.list hq
 have n1 := rv.length
 have n2 := hd.length
 have n3 : ds.length = ks.length := by have := congrArg List.length hk; simpa using this
 have row : ∀ i, i < its.length → ∃ (a b : Addr) (n : Int) (z : Str) (tn tz : Tok) (js : List Value), ks.getD i (0, Str.empty) = (n, z) ∧ its[i]? = some (.ref a) ∧ IsTup s.heap a [Value.int n tn, .ref b].toArray ∧ IsTup s.heap b (Value.str z tz :: js).toArray := fun i hi => by
  have hi1 : i < ds.length := by omega
  obtain ⟨v, ev, dv⟩ := hd.get (i := i) (d := ds[i]) (by simp [hi1])
  obtain ⟨u, eu, ru⟩ := rv.get ev
  have ek : HV ds[i] = some (ks.getD i (0, Str.empty)) := by
   have := congrArg (·[i]?) hk
   simp only [List.getElem?_map, List.getElem?_eq_getElem hi1, List.getElem?_eq_getElem (show i < ks.length by omega), Option.map_some] at this
   rw [Option.some.inj this, List.getD_eq_getElem?_getD, List.getElem?_eq_getElem (show i < ks.length by omega)]
   rfl
  generalize hks : ks.getD i (0, Str.empty) = kz at ek
  obtain ⟨n, z⟩ := kz
  obtain ⟨rs, er⟩ := Pe ek
  rw [er] at dv
  cases dv with
  | tup t1 t2 =>
   cases (show u = .ref _ from ru)
   obtain ⟨js, rt, it, _⟩ := I.tuple t1.sq
   cases t2 with
   | cons a1 a2 =>
    cases a1
    cases a2 with
    | cons a2 a3 =>
     cases a3
     cases a2 with
     | tup t3 t4 =>
      obtain ⟨js2, rt2, it2, _⟩ := I.tuple t3.sq
      cases t4 with
      | cons a4 a5 =>
       cases a4
       cases rt with
       | cons b1 b2 =>
        obtain ⟨tn, rfl⟩ := b1
        cases b2 with
        | cons b2 b3 =>
         cases b3
         cases (show _ = Value.ref _ from b2)
         cases rt2 with
         | cons c1 c2 =>
          obtain ⟨tz, rfl⟩ := c1
          exact ⟨_, _, n, z, tn, tz, _, rfl, eu, it, it2⟩
 have some_ : ∀ i, i < its.length → its[i]? = some (its.getD i Value.none) := fun i hi => by simp [hi]
 refine Kt (kd := tuples' true) (Bg ks) pl.isList (by omega) (fun two h1 kp E' R hR => ?_) (fun h1 kp i j hi hj hn C hC => ?_) fun q' pm pu => ?_
 ·have tups : ∀ (l : List Value), (∀ v ∈ l, ∃ (a b : Addr) (n : Int) (t : Tok), v = .ref a ∧ IsTup s.heap a [Value.int n t, .ref b].toArray) → ∃ fs, KatTups h1 l fs ∧ fs.length = l.length ∧ ∀ v ∈ fs, ∃ n t, v = Value.int n t := fun l => by
   induction l with
   | nil => intro _; exact ⟨[], .nil, rfl, fun v hv => (nomatch hv)⟩
   | cons v l ih =>
    intro hl
    obtain ⟨a, b, n, t, rfl, ob, ho, hc, c, hd⟩ := hl v List.mem_cons_self
    obtain ⟨fs, i1, i2, i3⟩ := ih fun v hv => hl v (List.mem_cons_of_mem _ hv)
    refine ⟨.int n t :: fs, .cons (kp a ob ho) hc hd (by simp) i1, by rw [List.length_cons, List.length_cons, i2], fun v hv => ?_⟩
    rcases List.mem_cons.mp hv with rfl | hv
    ·exact ⟨n, t, rfl⟩
    ·exact i3 v hv
  obtain ⟨fs, k1, k2, k3⟩ := tups its fun v hv => by
   obtain ⟨i, hi, rfl⟩ := List.getElem_of_mem hv
   obtain ⟨a, b, n, z, tn, tz, js, _, e, r, _⟩ := row i hi
   rw [List.getElem?_eq_getElem hi] at e
   exact ⟨a, b, n, tn, Option.some.inj e, r⟩
  exact kat_kind (T := Value.type "int") (s := { s with heap := h1 }) k1 (by omega) (fun v hv => by obtain ⟨z, t, rfl⟩ := k3 v hv; exact .now) rfl hR
 ·obtain ⟨a, b, n, z, tn, tz, js, ea, e, ⟨ob, ho, hc, c, hd⟩, ⟨oz, hoz, rz⟩⟩ := row i hi
  obtain ⟨a', b', n', z', tn', tz', js', ea', e', ⟨ob', ho', hc', c', hd'⟩, ⟨oz', hoz', rz'⟩⟩ := row j hj
  have e1 : its.getD i Value.none = .ref a := by have := some_ i hi; rw [e] at this; exact (Option.some.inj this).symm
  have e2 : its.getD j Value.none = .ref a' := by have := some_ j hj; rw [e'] at this; exact (Option.some.inj this).symm
  have ne : ks.getD i (0, Str.empty) ≠ ks.getD j (0, Str.empty) := fun z => by
   have hi2 : i < ks.length := by omega
   have hj2 : j < ks.length := by omega
   simp only [List.getD_eq_getElem?_getD, List.getElem?_eq_getElem hi2, List.getElem?_eq_getElem hj2, Option.getD_some] at z
   exact hn (Vi nd hi2 hj2 z)
  have el : RE ks i j = decide (n < n' ∨ n = n' ∧ z.cps.toList < z'.cps.toList) := by unfold RE; rw [ea, ea']
  rw [ea, ea'] at ne
  rw [e1, e2]
  rw [el] at hC
  have hu : X.A.in1.in1.units < cLine := by have := hr.un; show X.A.units + 1 + 1 < _; omega
  have tz1 : IsTup h1 b (Value.str z tz :: js).toArray := ⟨oz, kp b oz hoz, rz⟩
  have tz2 : IsTup h1 b' (Value.str z' tz' :: js').toArray := ⟨oz', kp b' oz' hoz', rz'⟩
  refine kat_lt (s := { s with heap := h1 }) (kp a ob ho) hd (kp a' ob' ho') hd' ?_
  refine kat_cons ((PySem.SeqAt.EqAt.int_int n tn n' tn') _ _ _ _ (kat_go (fun y => ?_) fun y => kat_no (oneLt_int ?_)))
  ·have en : n = n' := by simpa using y
   subst en
   have nz : z ≠ z' := fun q => ne (by rw [q])
   refine kat_yes (kat_cons ((Ml tz1 tz2 nz hu) _ _ _ _ (kat_go (fun q => (by cases q)) fun _ => kat_no (kat_one _ _ (Mc tz1 tz2 nz hu ?_)))))
   show C _ _
   rw [show decide (n < n ∨ n = n ∧ z.cps.toList < z'.cps.toList) = decide (z.cps.toList < z'.cps.toList) by rw [decide_eq_decide]; simp] at hC
   exact hC
  ·have nn : n ≠ n' := by simpa using y
   rw [show decide (n < n' ∨ n = n' ∧ z.cps.toList < z'.cps.toList) = decide (n < n') by rw [decide_eq_decide]; simp [nn]] at hC
   exact hC
 ·obtain ⟨e, he⟩ := sortedAll_at s.heap its (W4 its q')
  have hn : H (s.heap.objs.size + 1) = none := I.hok.fresh (Nat.le_succ _)
  have el : its.length = ds.length := by omega
  rw [el] at pm pu
  have hz := pm.size
  refine ⟨.ref (s.heap.objs.size + 1), _, I.laid (t' := s.toks) (a := s.heap.objs.size + 1) (o := .lst (q'.toList.map fun i => vs.getD i .non)) (fun _ _ => sortedAll_old) (Nat.le_succ _) ?_, rfl, q q' pm pu _ hn⟩
  refine ⟨?_, q'.toList.map fun i => its.getD i Value.none, e, ?_, he⟩
  ·rw [List.length_map, Array.length_toList, sizeLine_eq]
   omega
  ·have go : ∀ l : List Nat, (∀ i ∈ l, i < its.length) → Vals (l.map fun i => vs.getD i V.non) (l.map fun i => its.getD i Value.none) := fun l => by
    induction l with
    | nil => intro _; exact .nil
    | cons i l ih =>
     intro hl
     have hi := hl i List.mem_cons_self
     have hi1 : i < vs.length := by omega
     obtain ⟨u, eu, ru⟩ := rv.get (i := i) (x := vs[i]) (by simp [hi1])
     refine .cons ?_ (ih fun j hj => hl j (List.mem_cons_of_mem _ hj))
     have x1 : vs.getD i V.non = vs[i] := by simp [hi1]
     have x2 : its.getD i Value.none = u := by have := some_ i hi; rw [eu] at this; exact (Option.some.inj this).symm
     show L2.RelV (vs.getD i V.non) (its.getD i Value.none)
     rw [x1, x2]
     exact ru
   refine go _ fun i hi => ?_
   obtain ⟨k, hk, rfl⟩ := List.getElem_of_mem hi
   have := pm.below (k := k) (by rw [Array.length_toList] at hk; omega)
   rw [el]
   simpa [at', show k < q'.size by simpa using hk] using this
def ZeB (a b : PyData) : Prop := ∀ s t, HV a = some s → HV b = some t → ¬ (t.1 < s.1 ∨ t.1 = s.1 ∧ t.2.cps.toList < s.2.cps.toList)
theorem S9 {ds : List PyData} {ks : List (Int × Str)} (hk : ds.map HV = ks.map some) {i : Nat} (hi : i < ds.length) : HV (ds.getD i .none) = some (ks.getD i (0, Str.empty)) := by
 have n3 : ds.length = ks.length := by have := congrArg List.length hk; simpa using this
 have := congrArg (·[i]?) hk
 simp only [List.getElem?_map, List.getElem?_eq_getElem hi, List.getElem?_eq_getElem (show i < ks.length by omega), Option.map_some] at this
 rw [List.getD_eq_getElem?_getD, List.getD_eq_getElem?_getD, List.getElem?_eq_getElem hi, List.getElem?_eq_getElem (show i < ks.length by omega)]
 exact Option.some.inj this
def Ff : D1 := fun xs M Φ => on1 xs fun x => onK x M fun ds => ∃ ks : List (Int × Str), ds.map HV = ks.map some ∧ ks.Nodup ∧ ds.length < 64 ∧ ∀ ds' : List PyData, ds'.Perm ds → ds'.Pairwise ZeB → Φ (.dat (.list ds')) M
theorem HD (xs : List DV) (M : Mp) (Φ : DK) : Ff xs M Φ = (on1 xs fun x => onK x M fun ds => ∃ ks : List (Int × Str), ds.map HV = ks.map some ∧ ks.Nodup ∧ ds.length < 64 ∧ ∀ ds' : List PyData, ds'.Perm ds → ds'.Pairwise ZeB → Φ (.dat (.list ds')) M) := propext Iff.rfl
theorem CD {kk : Nat} (hr : Ji kk X.A) : QC X (.builtin "sorted") Ff := by
 refine ⟨_, K9 hr, fun vs H xs M Φ Q r rv h k => ?_⟩
 replace h := ZS h
 obtain ⟨x, rfl, h⟩ := h
 replace h := QV h
 obtain ⟨ds, hx, ks, hk, nd, few, q⟩ := h
 replace hx : W7 x M ds := hx
 obtain ⟨v, rfl, h1⟩ := Paired.one rv
 obtain ⟨a, ys, rfl, g1, g2⟩ := hx.sq r h1
 refine ⟨a, M, ys, ds, ks, rfl, g1, g2, hk, nd, few, fun p pm pu l hl => ?_⟩
 have hz := pm.size
 have pl : p.toList.Perm (List.range ds.length) := by
  have := Array.perm_iff_toList_perm.mp pm
  simpa using this
 have go : ∀ l : List Nat, (∀ i ∈ l, i < ds.length) → Dts X.K M H (l.map fun i => ys.getD i V.non) (l.map fun i => ds.getD i PyData.none) := fun l => by
  induction l with
  | nil => intro _; exact .nil
  | cons i l ih =>
   intro hl
   have hi := hl i List.mem_cons_self
   obtain ⟨v, ev, dv⟩ := g2.get (i := i) (d := ds[i]) (by simp [hi])
   refine .cons ?_ (ih fun j hj => hl j (List.mem_cons_of_mem _ hj))
   show Dt X.K M H (ys.getD i V.non) (ds.getD i PyData.none)
   rw [List.getD_eq_getElem?_getD, List.getD_eq_getElem?_getD, ev, List.getElem?_eq_getElem hi]
   exact dv
 have mem : ∀ i ∈ p.toList, i < ds.length := fun i hi => by
  have := pl.mem_iff.mp hi
  simpa using this
 refine k.dat (r.new hl) (Step.new hl) (Dt.Jl r hl (go _ mem)) (q _ ?_ ?_)
 ·have := pl.map fun i => ds.getD i PyData.none
  rwa [map_range] at this
 ·rw [List.pairwise_iff_getElem]
  intro i j hi hj hij s t es et
  rw [List.length_map] at hi hj
  rw [List.getElem_map] at es et
  have hi' : i < p.size := by simpa using hi
  have hj' : j < p.size := by simpa using hj
  rw [S9 hk (mem _ (List.getElem_mem _))] at es et
  have u := pu i j (by omega) (by omega)
  have u' := of_decide_eq_false u
  have a1 : at' p i = p.toList[i] := by simp [at', hi']
  have a2 : at' p j = p.toList[j] := by simp [at', hj']
  rw [a1, a2] at u'
  rw [Option.some.inj es, Option.some.inj et] at u'
  exact u'
theorem Y7 : ∀ {ss : List Str} {us : List Value}, Vals (ss.map V.str) us → StrsAre us ss
 | [], _, r => by rw [List.map_nil] at r; cases r; exact .nil
 | s :: ss, _, r => by
  rw [List.map_cons] at r
  cases r with
  | cons r1 r2 =>
   obtain ⟨t, rfl⟩ := r1
   exact .cons s t (Y7 r2)
theorem Wb : ∀ {us : List Value} {ss : List Str}, StrsAre us ss → Vals (ss.map V.str) us
 | _, _, .nil => .nil
 | _, _, .cons n t h => .cons ⟨t, rfl⟩ (Wb h)
theorem JY {K : PySem.W.Frag} {M : Mp} {H : Hp} : ∀ ss : List Str, Dts K M H (ss.map V.str) (ss.map PyData.str)
 | [] => .nil
 | s :: ss => .cons (.str s) (JY ss)
theorem VH : QF X (.builtin "sorted") (fun xs H Q => ∃ (p : Addr) (ss : List Str), xs = [.ref p] ∧ SqL X.K H p (ss.map V.str) ∧ ss.length < 64 ∧ ∀ ss' : List Str, ss'.Perm ss → sortedS ss' = true → ∀ l, H l = none → Q (.ref l) (upd H l (.lst (ss'.map V.str)))) := by
 intro pins s σ H xs us Q I r h
 obtain ⟨p, ss, rfl, hq, h64, q⟩ := h
 obtain ⟨u, rfl, rx⟩ := vals1 r
 cases rx
 obtain ⟨its, rv, pl, hz⟩ := I.list hq
 have hlen : its.length < 64 := by have := rv.length; rw [List.length_map] at this; omega
 refine sorted_strs pl.isList (Y7 rv) hlen fun out ss' a1 a2 a3 => ?_
 obtain ⟨e, he⟩ := sortedAll_at s.heap its out
 have hn : H (s.heap.objs.size + 1) = none := I.hok.fresh (Nat.le_succ _)
 refine ⟨.ref (s.heap.objs.size + 1), _, I.laid (t' := s.toks) (a := s.heap.objs.size + 1) (o := .lst (ss'.map V.str)) (fun _ _ => sortedAll_old) (Nat.le_succ _) ?_, rfl, q ss' a2 a3 _ hn⟩
 refine ⟨?_, out.toList, e, Wb a1, he⟩
 rw [List.length_map, a2.length_eq, sizeLine_eq]
 omega
def EX : D1 := fun xs M Φ => on1 xs fun x => onK x M fun ds => Ww ds fun ss => ss.length < 64 ∧ ∀ ss' : List Str, ss'.Perm ss → sortedS ss' = true → Φ (.dat (.list (ss'.map PyData.str))) M
theorem Fs (xs : List DV) (M : Mp) (Φ : DK) : EX xs M Φ = (on1 xs fun x => onK x M fun ds => Ww ds fun ss => ss.length < 64 ∧ ∀ ss' : List Str, ss'.Perm ss → sortedS ss' = true → Φ (.dat (.list (ss'.map PyData.str))) M) := propext Iff.rfl
theorem JB : QC X (.builtin "sorted") EX := by
 refine ⟨_, VH, fun vs H xs M Φ Q r rv h k => ?_⟩
 replace h := ZS h
 obtain ⟨x, rfl, h⟩ := h
 replace h := QV h
 obtain ⟨ds, hx, ss, rfl, h64, q⟩ := h
 replace hx : W7 x M (ss.map PyData.str) := hx
 obtain ⟨v, rfl, h1⟩ := Paired.one rv
 obtain ⟨a, ys, rfl, g1, g2⟩ := hx.sq r h1
 cases Kx g2
 exact ⟨a, ss, rfl, g1, h64, fun ss' a b l hl => k.dat (r.new hl) (Step.new hl) (Dt.Jl r hl (JY ss')) (q ss' a b)⟩
end
end DL
namespace DL
open PySem PySem.Spec PyProof.Rows L2 PySem.W
theorem Step.all {M : Mp} {H : Hp} : Step M H (fun _ => none) H := ⟨fun _ _ _ h => h, fun _ _ _ _ => rfl⟩
def KN (x : DV) (M : Mp) (P : PyData → Prop) : Prop := match x with | .dat d => P d | .own q => JC (M q) (fun ds => P (.list ds)) | _ => False
theorem Mz (d : PyData) (M : Mp) (P : PyData → Prop) : KN (.dat d) M P = P d := propext Iff.rfl
theorem Mt (q : Addr) (M : Mp) (P : PyData → Prop) : KN (.own q) M P = JC (M q) (fun ds => P (.list ds)) := propext Iff.rfl
section
variable {X : Cx}
theorem Fy {M : Mp} {H : Hp} {v : V} {x : DV} {P : PyData → Prop} (h : KN x M P) (r : ZK X.K M H) (rv : Qd X.K M H v x) : ∃ d, Dt X.K (fun _ => none) H v d ∧ P d := by
 cases x with
 | dat d => exact ⟨d, Dt.step Step.all rv, h⟩
 | own q =>
  have h : JC (M q) (fun ds => P (.list ds)) := h
  replace h := Qx h
  obtain ⟨ds, hm, h⟩ := h
  cases (show v = .ref q from rv)
  obtain ⟨vs, g1, g2⟩ := r.ls q ds hm
  exact ⟨.list ds, .lst (.inl ⟨rfl, .inl g1⟩) (g2.step Step.all), h⟩
 | ty t => exact h.elim
def ZdI : D2 := fun x y M Φ => KN x M fun d => KN y M fun e => HM d e = true ∧ Φ (.dat (.bool (PyData.eqv d e))) M
def ZdG : D2 := fun x y M Φ => KN x M fun d => KN y M fun e => HM d e = true ∧ Φ (.dat (.bool (!PyData.eqv d e))) M
def RM : D1 := fun xs M Φ => on1 xs fun x => KN x M fun d => Shw d ∧ Φ (.dat (.str d.shown)) M
def Dm (T : String) : D1 := fun xs M Φ => match xs with | [x, .ty t] => t = T ∧ KN x M fun d => Φ (.dat (.bool (ZD T d))) M | _ => False
theorem UO (T : String) (x : DV) (t : String) (M : Mp) (Φ : DK) : Dm T [x, .ty t] M Φ = (t = T ∧ KN x M fun d => Φ (.dat (.bool (ZD T d))) M) := propext Iff.rfl
theorem RD {T : String} (ht : ∀ d, PySem.W.kitOne X.K (.type (tyN d)) (.type T) = some (ZD T d)) : QC X (.builtin "isinstance") (Dm T) := by
 refine ⟨_, Wo, fun vs H xs M Φ Q r rv h k => ?_⟩
 replace h : ∃ x, xs = [x, .ty T] ∧ KN x M fun d => Φ (.dat (.bool (ZD T d))) M := by
  unfold Dm at h
  split at h
  ·exact ⟨_, by rw [h.1], h.2⟩
  ·exact h.elim
 obtain ⟨x, rfl, h⟩ := h
 obtain ⟨v, u, rfl, h1, h2⟩ := Paired.two rv
 obtain ⟨d, hd, q⟩ := Fy h r h1
 cases (show u = .ty T from h2)
 exact ⟨v, d, _, T, _, rfl, hd, ht d, k.dat r Step.refl (Dt.bl _) q⟩
theorem EN : QF X (.builtin "isinstance") (fun xs H Q => ∃ v d M T U p b, xs = [v, .ref p] ∧ Dt X.K M H v d ∧ H p = some (.tup [.ty T, .ty U]) ∧ PySem.W.kitAny X.K (.type (tyN d)) [.type T, .type U] = some b ∧ Q (.bl b) H) := by
 intro pins s σ H xs us Q I r h
 obtain ⟨v, d, M, T, U, p, b, rfl, hd, hp, e, q⟩ := h
 obtain ⟨u, w', rfl, ru, rt⟩ := vals2 r
 cases (show w' = Value.ref p from rt)
 have fin : ∀ tk, EP X pins σ Q (.bool b) { s with toks := tk } := fun tk => ⟨.bl b, H, I.tok tk, rfl, q⟩
 obtain ⟨its, rv, ⟨⟨cls, dd, data, sl⟩, ho, hc, n, hda⟩, _⟩ := I.tuple (.inl (.inl hp))
 simp only at hc hda
 subst hc hda
 have ei : its = [.type T, .type U] := by
  cases rv with
  | cons a1 a2 =>
   cases a2 with
   | cons a2 a3 =>
    cases a3
    rw [show _ = Value.type T from a1, show _ = Value.type U from a2]
 subst ei
 cases hd with
 | non => cases ru; exact PySem.W.kia_tup PySem.W.kitx_none I.kIn True.intro ho e (fun z => nomatch z) fin
 | bl y => cases ru; exact PySem.W.kia_tup PySem.W.kitx_bool I.kIn True.intro ho e (fun z => nomatch z) fin
 | int i => obtain ⟨t, rfl⟩ := ru; exact PySem.W.kia_tup PySem.W.kitx_int I.kIn True.intro ho e (fun z => nomatch z) fin
 | str y => obtain ⟨t, rfl⟩ := ru; exact PySem.W.kia_tup PySem.W.kitx_str I.kIn True.intro ho e (fun z => nomatch z) fin
 | tup h1 _ =>
  cases ru
  obtain ⟨_, _, ⟨o, hq, hc, _⟩, _⟩ := I.tuple h1.sq
  exact PySem.W.kia_tup PySem.W.kitx_tuple I.kIn ⟨o, hq, hc⟩ ho e (fun z => nomatch z) fin
 | lst h1 _ =>
  cases ru
  obtain ⟨_, _, ⟨o, n, hq, hc, _⟩, _⟩ := I.list h1.sq
  exact PySem.W.kia_tup PySem.W.kitx_list I.kIn ⟨o, hq, hc⟩ ho e (fun z => nomatch z) fin
 | dK _ h1 _ =>
  cases ru
  obtain ⟨_, _, vs, _, p⟩ := (show Qh X.prog X.w H s.heap _ (.dK _) from I.hok _ _ h1)
  obtain ⟨o, es, ep, g1, g2, _⟩ := p
  exact PySem.W.kia_tup PySem.W.kitx_dict I.kIn ⟨o, g1, g2.1⟩ ho e (fun z => nomatch z) fin
 | dT _ h1 _ =>
  cases ru
  obtain ⟨_, _, xs, _, o, es, ep, g1, g2, _⟩ := (show Qh X.prog X.w H s.heap _ (.dT _) from I.hok _ _ h1)
  exact PySem.W.kia_tup PySem.W.kitx_dict I.kIn ⟨o, g1, g2.1⟩ ho e (fun z => nomatch z) fin
 | dX _ h1 _ h3 _ _ =>
  cases ru
  obtain ⟨hφ, _⟩ := (show Qh X.prog X.w H s.heap _ (.ext _) from I.hok _ _ h1)
  obtain ⟨o, es, n, u, hq, hc, _⟩ := h3 s.heap hφ
  exact PySem.W.kia_tup PySem.W.kitx_dict I.kIn ⟨o, hq, hc⟩ ho e (fun z => nomatch z) fin
theorem ZaG (K : PySem.W.Frag) (d : PyData) : PySem.W.kitAny K (.type (tyN d)) [.type "list", .type "tuple"] = some (ZD "list" d || ZD "tuple" d) := by cases d <;> rfl
def T2 (te : DTE) : DTE := fun Δ M Φ => te Δ M fun x M1 => KN x M1 fun d => Φ (.dat (.bool (ZD "list" d || ZD "tuple" d))) M1
theorem Si (te : DTE) (Δ : DSt) (M : Mp) (Φ : DK) : T2 te Δ M Φ = (te Δ M fun x M1 => KN x M1 fun d => Φ (.dat (.bool (ZD "list" d || ZD "tuple" d))) M1) := propext Iff.rfl
theorem FL {e : Expr} {te : DTE} {x1 : Nat} {p p1 p2 pt pos : Pos} (hg : Gl X "isinstance") (hm : X.mg "isinstance" = none) (hv : bootBuiltins "isinstance" = some (.builtin "isinstance")) (hgl : Gl X "list") (hml : X.mg "list" = none) (hvl : bootBuiltins "list" = some (.type "list"))
  (hgt : Gl X "tuple") (hmt : X.mg "tuple" = none) (hvt : bootBuiltins "tuple" = some (.type "tuple")) (he : DE X e te)
  (hs : autoParam (starEach [e, .Tuple [.Name "list" p1, .Name "tuple" p2] x1 pt] X.env = (false, eval e X.env) :: starEach [.Tuple [.Name "list" p1, .Name "tuple" p2] x1 pt] X.env) zz3._auto_1)
  (hs2 : autoParam (starEach [.Tuple [.Name "list" p1, .Name "tuple" p2] x1 pt] X.env = (false, eval (.Tuple [.Name "list" p1, .Name "tuple" p2] x1 pt) X.env) :: starEach [] X.env) zz3._auto_1)
  (hs3 : autoParam (starEach [.Name "list" p1, .Name "tuple" p2] X.env = (false, eval (.Name "list" p1) X.env) :: starEach [.Name "tuple" p2] X.env) zz3._auto_1)
  (hs4 : autoParam (starEach [.Name "tuple" p2] X.env = (false, eval (.Name "tuple" p2) X.env) :: starEach [] X.env) zz3._auto_1)
  (hpl : autoParam ((backTo pos (starEach [.Tuple [.Name "list" p1, .Name "tuple" p2] x1 pt] X.env)).any (·.1) = false) zz3._auto_1) :
  DE X (.Call (.Name "isinstance" p) [e, .Tuple [.Name "list" p1, .Name "tuple" p2] x1 pt] [] pos) (T2 te) := by
 obtain ⟨t0, p0, q0⟩ := he
 have L := UM (v := V.ty "list") (pos := p1) hgl hml hvl rfl (by decide) (by decide)
 have U := UM (v := V.ty "tuple") (pos := p2) hgt hmt hvt rfl (by decide) (by decide)
 refine ⟨_, Bp EN hg hm hv (JA p0 (JA (OM (JA L (JA U Xc hs4) hs3)) Xc hs2) hs) (by decide) (by decide) hs hpl, fun σ H Δ M Φ Q r e h k => ?_⟩
 refine q0 σ H Δ M _ _ r e h fun v H1 x M1 r1 st rv hx => ?_
 obtain ⟨d, hd, q⟩ := Fy hx r1 rv
 refine ⟨by rw [sizeLine_eq]; show 2 ≤ 16777216; decide, fun a ha => ?_⟩
 have sn : Step (fun _ => none) H1 (fun _ => none) (upd H1 a (.tup [V.ty "list", V.ty "tuple"])) := Step.new ha
 exact ⟨v, d, _, "list", "tuple", a, _, rfl, Dt.step sn hd, Z8, ZaG _ d, k.dat (r1.new ha) (st.trans (Step.new ha)) (Dt.bl _) q⟩
end
end DL
namespace DL
open PySem PySem.Spec PyProof.Rows L2
def YlG (K : PySem.W.Frag) (J : It) (ds : List PyData) (G : Mp → Prop) (M : Mp) (H : Hp) : Prop := ∀ M2 H2, Step M H M2 H2 → ZK K M2 H2 → G M2 → ∀ i,
 (i < ds.length → J.go i H2 ∧ ∀ x H', J.yld i H2 x H' → ZK K M2 H2 → ZK K M2 H' ∧ Step M2 H2 M2 H' ∧ ∃ d, ds[i]? = some d ∧ Dt K M2 H' x d) ∧ (ds.length ≤ i → J.stop i H2)
abbrev YZ := DSt → Mp → (List PyData → (Mp → Prop) → Mp → Prop) → Prop
def DIG (X : Cx) (tg iter : Expr) (src : YZ) : Prop := ∃ wi, PI X tg iter wi ∧ ∀ σ H Δ M Ψ (R : It → Hp → Prop), ZK X.K M H → QJ X.K M H σ Δ → src Δ M Ψ →
 (∀ J H' M' ds G, ZK X.K M' H' → Step M H M' H' → YlG X.K J ds G M' H' → Ψ ds G M' → R J H') → wi σ H R
section
variable {X : Cx}
abbrev MS (ds : List PyData) (G : Mp → Prop) (M1 : Mp) (Δ : DSt) (ix : List (Option Nat)) (g : DTG) (tc : DTT) (te : DTE) (ψ : List PyData → Mp → Prop) : Prop := ds.length ≤ sizeLine ∧ ∃ J : Nat → List PyData → Mp → Prop, (∀ i acc M', J i acc M' → G M') ∧ J 0 [] M1 ∧
 (∀ i d acc M', ds[i]? = some d → J i acc M' → g (.dat d) (W5 ix Δ) M' fun Δ2 M2 => tc Δ2 M2 fun b M3 => if b = true then te Δ2 M3 fun y M4 => onD y fun e => J (i + 1) (acc ++ [e]) M4 else J (i + 1) acc M3) ∧ ∀ acc M', J ds.length acc M' → ψ acc M'
set_option maxHeartbeats 2000000 in
theorem Cg {elt tg iter : Expr} {ifs : List Expr} {scope : Scope} {pos ps : Pos} {src : YZ} {N : List Str} {ix : List (Option Nat)} {g : DTG} {tc : DTT} {te : DTE} {use : Option (Value → Sem Unit)} {QQ : Value → Shared → Prop} {ψ : List PyData → Mp → Prop} (ok : JL X scope N ix) (hi : DIG X tg iter src)
  (hg : ∀ C ex s H, DG (ZA X scope C N ex s H) tg g) (ht : ∀ C ex s H, DTs (ZA X scope C N ex s H) ifs tc) (he : ∀ C ex s H, DE (ZA X scope C N ex s H) elt te) (hc : X.calm = true)
  (hs : ∀ x, foldedSetIterable iter X.env x = pure x) {σ : L2.St} {H : Hp} {Δ : DSt} {M : Mp} {pins : List (Addr × Obj)} {s : Shared} (dr : ZK X.K M H) (er : QJ X.K M H σ Δ) (h : src Δ M fun ds G M1 => MS ds G M1 Δ ix g tc te ψ) (I : L2.Inv X pins σ H s)
  (hfin : ∀ (s4 : Shared) (C D : Addr) (H' : Hp) (M' : Mp) (vs : List V) (acc : List PyData), L2.Inv X pins σ (upd H' D (.lst vs)) s4 → H' D = none → ZK X.K M' H' → Step M H M' H' → Dts X.K M' H' vs acc → ψ acc M' → (∃ m, s4.heap.Ns C m) → Us X pins (upd H' D (.lst vs)) C →
   compPost (model X.prog X.w) X.A X.xe use QQ (.ref D) C (.ok .next) s4) :
  wpAny (model X.prog X.w) X.A (comprehension (.ListComp elt [⟨tg, iter, ifs, 0⟩] scope pos) scope X.env ps (newList []) false (eval iter X.env) use) QQ X.xe s := by
 obtain ⟨wi, pi, qi⟩ := hi
 refine wpAny_comprehension_free (use := use) (cl := CH X.env scope.names []) rfl hs (Js (Ov ok I)) ok.kind ok.names ?_
 show wpAny _ _ (eval iter X.env) _ _ s
 refine thn (pi pins s σ H (fun J H' => ∃ M' ds G, ZK X.K M' H' ∧ Step M H M' H' ∧ YlG X.K J ds G M' H' ∧ ds.length ≤ sizeLine ∧ ∃ W : Nat → List PyData → Mp → Prop, (∀ i acc M', W i acc M' → G M') ∧ W 0 [] M' ∧
   (∀ i d acc M', ds[i]? = some d → W i acc M' → g (.dat d) (W5 ix Δ) M' fun Δ2 M2 => tc Δ2 M2 fun b M3 => if b = true then te Δ2 M3 fun y M4 => onD y fun e => W (i + 1) (acc ++ [e]) M4 else W (i + 1) acc M3) ∧
   ∀ acc M', W ds.length acc M' → ψ acc M') I (qi σ H Δ M _ _ dr er h fun J H' M' ds G a b c d => ⟨M', ds, G, a, b, c, d⟩)) fun x s1 h1 => thn h1 fun itv s2 h2 => ?_
 obtain ⟨it, fp, tn, J, H2, e, I2, T, st2, f2, M1, ds, G, dr1, stp, yl, hz, W, wg, w0, wt, wd⟩ := h2
 subst e
 have exo : ∀ b ∈ fp, ∃ o, s2.heap.get? b = some o := fun b hb => let ⟨o, q, _⟩ := T.obj 0 _ st2 b hb; ⟨o, q⟩
 refine wpAny_newObj_type (wpAny_newFunctionEnv ok.cellF (by intro y hy; simp at hy) (fun h₁ hns₁ hsb₁ => ?_) ok.kind)
 dsimp only at hns₁ hsb₁ ⊢
 generalize hH2 : s2.heap.push { cls := .type "list", dict := none, data := .seq ([] : List Value).toArray } = HH at hns₁ hsb₁ ⊢
 have hC : HH.objs.size = s2.heap.objs.size + 1 := by rw [← hH2, Heap.size_push]
 have hDC : s2.heap.objs.size ≠ HH.objs.size := by rw [hC]; exact Nat.ne_of_lt (Nat.lt_succ_self _)
 have hCle : s2.heap.objs.size ≤ HH.objs.size := by rw [hC]; exact Nat.le_succ _
 have below : ∀ b, b < s2.heap.objs.size → b ≠ HH.objs.size ∧ b ≠ s2.heap.objs.size := fun b hb => ⟨by rw [hC]; exact Nat.ne_of_lt (Nat.lt_succ_of_lt hb), Nat.ne_of_lt hb⟩
 have old : ∀ b o, s2.heap.get? b = some o → h₁.get? b = some o := fun b o e => hsb₁.extBut b o (below b (Heap.lt_size e)).1 (Heap.get?_push_of_some _ (hH2 ▸ Heap.get?_push_of_some _ e))
 have hacc : h₁.get? s2.heap.objs.size = some { cls := .type "list", data := .seq ([] : List Value).toArray } := hsb₁.extBut _ _ hDC (Heap.get?_push_of_some _ (hH2 ▸ Heap.get?_push_size _ rfl))
 generalize hCC : HH.objs.size = C at *
 generalize hDD : s2.heap.objs.size = D at hDC hacc below hCle
 have hDs : s2.heap.objs.size ≤ D := Nat.le_of_eq hDD
 have hCs : s2.heap.objs.size ≤ C := by rw [hDD]; exact hCle
 have fD : ∀ b ∈ fp, b ≠ D ∧ b ≠ C := fun b hb => by
  obtain ⟨o, q⟩ := exo b hb
  exact ⟨(below b (by rw [← hDD]; exact Heap.lt_size q)).2, (below b (by rw [← hDD]; exact Heap.lt_size q)).1⟩
 have okY : (ZA X scope C N fp s2 H2).Ok := Xd ok I2 f2 exo hCs
 have fsD : ∀ b ∈ frs X.stack, b < s2.heap.objs.size := fun b hb => by
  obtain ⟨_, o, ho, _⟩ := I2.stack.mem hb
  exact Heap.lt_size ho
 have cellD : ∀ x c, (ZA X scope C N fp s2 H2).env.cells.lookup x = some c → c < s2.heap.objs.size ∧ H2 c = none := fun x c e => by
  have e' := (Z7 (Ov ok I2) e).1
  obtain ⟨v, q⟩ := I2.cell x c e'
  exact ⟨q.lt, I2.freeC x c e'⟩
 have fpY : ∀ {H' : Hp} {ps : List (Addr × Obj)}, (∀ b ∈ fp, H' b = none) → (∀ p ∈ ps, p.1 = D) → ∀ b ∈ fp, Us (ZA X scope C N fp s2 H2) ps H' b := fun {H' ps} hn hp b hb =>
  ⟨hn b hb, (fD b hb).2, okY.exfs b hb, .inl hb, (okY.exf b hb).2, fun p hp' z => by
   have q : p ∈ ps := hp'
   rw [hp p q] at z
   exact (fD b hb).1 z.symm⟩
 have onlyD : ∀ (o : Obj), ∀ p ∈ [(D, o)], p.1 = D := fun o p hp => by
  have q : p = (D, o) := by simpa using hp
  rw [q]
 have reloc : ∀ {ps : List (Addr × Obj)} {σ' : L2.St} {H' : Hp} {s' : Shared} {o : Obj}, L2.Inv (ZA X scope C N fp s2 H2) ps σ' H' s' → s'.heap.get? D = some o → H' D = none → (∀ v, o.data ≠ .cell v) →
   L2.Inv (ZA X scope C N fp s2 H2) [(D, o)] (Qq ix σ) H' s' := fun {ps σ' H' s' o} J' hD hn hd => by
  obtain ⟨m, hm, _⟩ := J'.loc
  refine ⟨J'.ok, J'.os, J'.bare, J'.base, ⟨m, hm, fun i x v a b _ => VZ ok I2 f2 J'.base i x v a b⟩, J'.cell, J'.free, J'.freeC, fun p hp => ?_, J'.hok, ?_⟩
  ·have q : p = (D, o) := by
    have z : p ∈ ([] : List (Addr × Obj)) ++ [(D, o)] := hp
    simpa using z
   subst q
   exact ⟨hD, hn, hDC, fun z => absurd (fsD D z) (Nat.not_lt.mpr hDs), hd⟩
  ·show (Qq ix σ).length = N.length
   unfold Qq
   rw [List.length_map, ok.len]
 have start : L2.Inv (ZA X scope C N fp s2 H2) [(D, { cls := .type "list", data := .seq ([] : List Value).toArray })] (Qq ix σ) H2 { s2 with heap := h₁, toks := s2.toks + ([] : List (Str × Value)).length } := by
  refine ⟨okY, rfl, I2.bare, Un.kept old, ⟨_, hns₁, fun i x v a b _ => VZ ok I2 f2 (Un.kept old) i x v a b⟩, fun x c e => ?_, I2.hok.fresh hCs, fun x c e => (cellD x c e).2, fun p hp => ?_, I2.hok.kept old, ?_⟩
  ·obtain ⟨v, o, ho, hd⟩ := I2.cell x c (Z7 (Ov ok I2) e).1
   exact ⟨v, o, old c o ho, hd⟩
  ·have q : p = (D, { cls := .type "list", data := .seq ([] : List Value).toArray }) := by
    have z : p ∈ ([] : List (Addr × Obj)) ++ [(D, { cls := .type "list", data := .seq ([] : List Value).toArray })] := hp
    simpa using z
   subst q
   exact ⟨hacc, I2.hok.fresh hDs, hDC, fun z => absurd (fsD D z) (Nat.not_lt.mpr hDs), fun v z => nomatch z⟩
  ·show (Qq ix σ).length = N.length
   unfold Qq
   rw [List.length_map, ok.len]
 have loop : ∀ s₃ : Shared, s₃ = { s2 with heap := h₁, toks := s2.toks + ([] : List (Str × Value)).length } →
   codeAny (model X.prog X.w) X.A (.compLoop (.ListComp elt [⟨tg, iter, ifs, 0⟩] scope pos) 0 (.ref it) (.ref D) (compEnvC scope (CH X.env scope.names []) C X.env)) (compPost (model X.prog X.w) X.A X.xe use QQ (.ref D) C) s₃ := by
  rintro s₃ rfl
  refine VS (fun n s' => ∃ (i : Nat) (acc : List PyData) (vs : List V) (its : List Value) (nn : Nat) (H' : Hp) (M' : Mp), L2.Inv (ZA X scope C N fp s2 H2) [(D, { cls := .type "list", data := .seq its.toArray nn })] (Qq ix σ) H' s' ∧
   tn i s'.heap ∧ (∀ b ∈ fp, H' b = none) ∧ ZK X.K M' H' ∧ Step M1 H2 M' H' ∧ Vals vs its ∧ Dts X.K M' H' vs acc ∧ W i acc M' ∧ i ≤ ds.length ∧ acc.length ≤ i ∧ n = ds.length - i) ?_ ds.length
   ⟨0, [], [], [], 0, H2, M1, start, T.keep _ _ _ st2 (fun b _ o e => old b o e), fun b hb => (f2 b hb).1, dr1, Step.refl, .nil, .nil, w0, Nat.zero_le _, Nat.le_refl _, rfl⟩
  rintro n s' ⟨i, acc, vs, its, nn, H', M', IY, ti, fr, dr', stp', rv, rd, wi', hil, hal, rfl⟩
  have pinD := IY.pin (D, { cls := .type "list", data := .seq its.toArray nn }) (by simp)
  have fok := fpY (ps := [(D, { cls := .type "list", data := .seq its.toArray nn })]) fr (onlyD _)
  obtain ⟨ygo, ystop⟩ := yl M' H' stp' dr' (wg i acc M' wi') i
  by_cases hlt : i < ds.length
  ·obtain ⟨jgo, jyl⟩ := ygo hlt
   refine thn (T.item (ZA X scope C N fp s2 H2) rfl rfl rfl hc i _ s' (Qq ix σ) H' (fun _ _ => False) IY fok ti jgo) fun r s4 ⟨u, hr, h4⟩ => ?_
   subst hr
   refine thn h4 fun _ s5 ⟨x, H5, I5, r5, y5, st5, fr5⟩ => ?_
   obtain ⟨dr5, stp5, d, hd, hxd⟩ := jyl x H5 y5 dr'
   replace dr' := dr5
   replace stp' := stp'.trans stp5
   replace rd := rd.step stp5
   have I5' := I5.pinned (fpY (ps := [(D, { cls := .type "list", data := .seq its.toArray nn })]) fr5 (onlyD _)) (T.obj _ _ st5)
   obtain ⟨tg', pg, qg⟩ := hg C fp s2 H2
   refine thn (pg _ s5 (Qq ix σ) H5 x u (fun σ6 H6 => ∃ Δ6 M6, ZK X.K M6 H6 ∧ Step M' H5 M6 H6 ∧ QJ X.K M6 H6 σ6 Δ6 ∧ tc Δ6 M6 fun b M3 => if b = true then te Δ6 M3 fun y M4 => onD y fun e => W (i + 1) (acc ++ [e]) M4 else W (i + 1) acc M3) I5' r5
    (qg x (Qq ix σ) H5 (.dat d) (W5 ix Δ) M' _ _ dr' ((er.step (stp.trans stp')).cap ix) hxd (wt i d acc M' hd wi') fun σ6 H6 Δ6 M6 a b c d => ⟨Δ6, M6, a, b, c, d⟩)) fun _ s6 ⟨σ6, H6, I6, Δ6, M6, dr6, stp6, er6, q6⟩ => ?_
   refine thn (ht C fp s2 H2 _ s6 σ6 H6 Δ6 M6 _ I6 dr6 er6 q6) fun b s7 ⟨H7, M7, I7, dr7, stp7, q7⟩ => ?_
   have keepD : ∀ {σz : L2.St} {Hz : Hp} {sz : Shared}, L2.Inv (ZA X scope C N fp s2 H2) ([(D, { cls := .type "list", data := .seq its.toArray nn })] ++ Xi fp s5.heap) σz Hz sz →
     sz.heap.get? D = some { cls := .type "list", data := .seq its.toArray nn } ∧ Hz D = none ∧ tn (i + 1) sz.heap ∧ ∀ b ∈ fp, Hz b = none := fun {σz Hz sz} Iz => by
    have a := Iz.pin (D, { cls := .type "list", data := .seq its.toArray nn }) (by simp)
    refine ⟨a.1, a.2.1, T.keep _ _ _ st5 fun b hb o e => (Iz.pin (b, o) (List.mem_append_right _ (List.mem_append_right _ (QH hb e)))).1, fun b hb => ?_⟩
    obtain ⟨o, e, _⟩ := T.obj _ _ st5 b hb
    exact (Iz.pin (b, o) (List.mem_append_right _ (List.mem_append_right _ (QH hb e)))).2.1
   cases b with
   | false =>
    have q7' : W (i + 1) acc M7 := by simpa using q7
    obtain ⟨a1, a2, a3, a4⟩ := keepD I7
    have st17 : Step M' H5 M7 H7 := stp6.trans stp7
    exact ⟨ds.length - (i + 1), by omega, i + 1, acc, vs, its, nn, H7, M7, reloc I7 a1 a2 (fun v z => nomatch z), a3, a4, dr7, stp'.trans st17, rv, rd.step st17, q7', hlt, by omega, rfl⟩
   | true =>
    have q7' : te Δ6 M7 fun y M4 => onD y fun e => W (i + 1) (acc ++ [e]) M4 := by simpa using q7
    obtain ⟨te', pe', qe'⟩ := he C fp s2 H2
    refine thn (pe' _ s7 σ6 H7 (fun v H8 => ∃ e M8, ZK X.K M8 H8 ∧ Step M7 H7 M8 H8 ∧ Dt X.K M8 H8 v e ∧ W (i + 1) (acc ++ [e]) M8) I7 (qe' σ6 H7 Δ6 M7 _ _ dr7 (er6.step stp7) q7' fun v H8 x8 M8 a b c d => by
     replace d := QK d
     obtain ⟨e, rfl, w8⟩ := d
     exact ⟨e, M8, a, b, c, w8⟩)) fun y s8 ⟨v, H8, I8, r8, e, M8, dr8, stp8, dv8, w8⟩ => ?_
    obtain ⟨a1, a2, a3, a4⟩ := keepD I8
    have st18 : Step M' H5 M8 H8 := stp6.trans (stp7.trans stp8)
    have lv := rv.length
    have ld := rd.length
    refine call_meets PySem.F.slot_list_append ⟨_, a1, rfl⟩ PySem.F.entry_list_append (PySem.F.args_list_append_2 _ _) (PySem.list_append D its.toArray nn y (by rw [List.size_toArray]; omega)) ⟨a1, ?_⟩
    have q := PySem.IsL.update a1 (·.push y)
    have I8' : L2.Inv (ZA X scope C N fp s2 H2) [] σ6 H8 s8 := I8.Vz fun p hp => nomatch hp
    have I9 := I8'.turned (it := D) (h' := s8.heap.update D (Obj.mapSeq (·.push y))) (t' := s8.toks) (fun b o hb hu => (Heap.get?_update_other s8.heap (Obj.mapSeq (·.push y)) (Ne.symm hb)).trans hu) a2 hDC (.inr hDs)
     (fun x c e z => absurd (z ▸ (cellD x c e).1) (Nat.not_lt.mpr hDs)) (fun p hp => by have z : p ∈ ([] : List (Addr × Obj)) ++ [] := hp; simp at z)
    have ea : (its.toArray.push y) = (its ++ [y]).toArray := by simp
    rw [ea] at q
    refine ⟨ds.length - (i + 1), by omega, i + 1, acc ++ [e], vs ++ [v], its ++ [y], _, H8, M8, reloc I9 q a2 (fun v z => nomatch z), T.keep _ _ _ a3 (fun b hb o e => (Heap.get?_update_other s8.heap (Obj.mapSeq (·.push y)) (Ne.symm (fD b hb).1)).trans e), a4, dr8, stp'.trans st18,
     rv.append (.cons r8 .nil), (rd.step st18).append (.cons dv8 .nil), w8, hlt, by rw [List.length_append, List.length_singleton]; omega, rfl⟩
  ·have hie : i = ds.length := by omega
   refine thn (T.done (ZA X scope C N fp s2 H2) rfl rfl rfl hc i _ s' (Qq ix σ) H' (fun _ _ => False) IY fok ti (ystop (by omega))) fun r s4 ⟨hr, I4⟩ => ?_
   subst hr
   obtain ⟨m4, hm4, _⟩ := I4.loc
   have pD := I4.pin (D, { cls := .type "list", data := .seq its.toArray nn }) (by simp)
   have hCn : H' C = none := I4.free
   have hDn : H' D = none := pD.2.1
   have hok4 : HOk X.prog X.w (upd H' D (.lst vs)) s4.heap := fun b u e => by
    by_cases hb : b = D
    ·subst hb
     rw [Z8] at e
     cases e
     exact ⟨by have := rv.length; have := rd.length; omega, its, nn, rv, pD.1⟩
    ·rw [ZC hb] at e
     refine (I4.hok b u e).Of (fun c v hc' q => q) (fun c q => ?_) fun c xs q => ?_
     ·rw [ZC (Zr q pD.2.1)]; exact q
     ·rw [ZC (Zr q pD.2.1)]; exact q
   have bu : Un (frs X.stack) fp H2 H' s2.heap s4.heap := I4.base
   have un4 : Un (frs X.stack) fp H2 (upd H' D (.lst vs)) s2.heap s4.heap := by
    have nD : ∀ b o, s2.heap.get? b = some o → b ≠ D ∧ b ≠ C := fun b o e => ⟨fun z => absurd (z ▸ Heap.lt_size e) (Nat.not_lt.mpr hDs), fun z => absurd (z ▸ Heap.lt_size e) (Nat.not_lt.mpr hCs)⟩
    refine ⟨fun b o e n hb hx => bu.keep b o e n hb hx, fun b o e n hb hx => bu.slot b o e n hb hx, fun b o e n hx => by rw [ZC (nD b o e).1]; exact bu.free b o e n hx, fun b o e hx => bu.there b o e hx, fun b xs e => ?_, fun b o xs e => ?_, fun b ps e => ?_⟩
    ·have q := bu.tups b xs e
     rw [ZC (Zr q pD.2.1)]; exact q
    ·have q := bu.frzs b o xs e
     rw [ZC (Zr q pD.2.1)]; exact q
    ·obtain ⟨mo, q⟩ := bu.tbls b ps e
     exact ⟨mo, by rw [ZC (Zr q pD.2.1)]; exact q⟩
   have os4 : s4.os = s2.os := I4.os
   have IX : L2.Inv X pins σ (upd H' D (.lst vs)) s4 := I2.Zau (s' := s4) os4 un4 hok4 I4.bare fun b hb => ⟨(f2 b hb).2.2.2.1, (f2 b hb).2.1, (f2 b hb).2.2.2.2.1, (f2 b hb).2.2.2.2.2⟩
   subst hie
   exact hfin s4 C D H' M' vs acc IX hDn dr' (stp.trans stp') rd (wd acc M' wi') ⟨m4, hm4⟩ (I2.To hCs (by rw [ZC (Ne.symm hDC)]; exact hCn))
 have hst₁ : tn 0 h₁ := T.keep _ _ _ st2 fun b _ o e => old b o e
 exact codeAny_compStart_list (loop _ rfl) (T.self _ 0 _ _ _ hst₁ (loop _ rfl))
def N4 (ow : Bool) (src : YZ) (ix : List (Option Nat)) (g : DTG) (tc : DTT) (te : DTE) : DTE := fun Δ M Φ => src Δ M fun ds G M1 => ds.length ≤ sizeLine ∧ ∃ J : Nat → List PyData → Mp → Prop, (∀ i acc M', J i acc M' → G M') ∧ J 0 [] M1 ∧
 (∀ i d acc M', ds[i]? = some d → J i acc M' → g (.dat d) (W5 ix Δ) M' fun Δ2 M2 => tc Δ2 M2 fun b M3 => if b = true then te Δ2 M3 fun y M4 => onD y fun e => J (i + 1) (acc ++ [e]) M4 else J (i + 1) acc M3) ∧ ∀ acc M', J ds.length acc M' → W6 ow Φ acc M'
theorem Ma (ow : Bool) (src : YZ) (ix : List (Option Nat)) (g : DTG) (tc : DTT) (te : DTE) (Δ : DSt) (M : Mp) (Φ : DK) : N4 ow src ix g tc te Δ M Φ = (src Δ M fun ds G M1 => ds.length ≤ sizeLine ∧ ∃ J : Nat → List PyData → Mp → Prop, (∀ i acc M', J i acc M' → G M') ∧ J 0 [] M1 ∧
 (∀ i d acc M', ds[i]? = some d → J i acc M' → g (.dat d) (W5 ix Δ) M' fun Δ2 M2 => tc Δ2 M2 fun b M3 => if b = true then te Δ2 M3 fun y M4 => onD y fun e => J (i + 1) (acc ++ [e]) M4 else J (i + 1) acc M3) ∧ ∀ acc M', J ds.length acc M' → W6 ow Φ acc M') := propext Iff.rfl
theorem G2 (ow : Bool) {elt tg iter : Expr} {ifs : List Expr} {scope : Scope} {pos : Pos} {src : YZ} {N : List Str} {ix : List (Option Nat)} {g : DTG} {tc : DTT} {te : DTE} (ok : JL X scope N ix) (hi : DIG X tg iter src)
  (hg : ∀ C ex s H, DG (ZA X scope C N ex s H) tg g) (ht : ∀ C ex s H, DTs (ZA X scope C N ex s H) ifs tc) (he : ∀ C ex s H, DE (ZA X scope C N ex s H) elt te) (hc : X.calm = true)
  (hs : autoParam (∀ x, foldedSetIterable iter X.env x = pure x) zz2._auto_1) : DE X (.ListComp elt [⟨tg, iter, ifs, 0⟩] scope pos) (N4 ow src ix g tc te) := by
 refine ⟨fun σ H Q => ∀ pins s, L2.Inv X pins σ H s → wpAny (model X.prog X.w) X.A (eval (.ListComp elt [⟨tg, iter, ifs, 0⟩] scope pos) X.env) (EP X pins σ Q) X.xe s, fun pins s σ H Q I h => h pins s I, fun σ H Δ M Φ Q dr er h k pins s I => ?_⟩
 rw [eval_ListComp]
 refine Cg (ψ := W6 ow Φ) ok hi hg ht he hc hs dr er h I fun s4 C D H' M' vs acc IX hDn dr' st rd fin hm f => ?_
 obtain ⟨m, hm⟩ := hm
 exact ⟨m, hm, fun h' hsb => ⟨.ref D, _, gone IX f hsb, rfl, OI dr' st rd hDn fin k⟩⟩
def Zb9 (ta : DTA) : YZ := fun Δ M Ψ => ta Δ M fun xs M1 => on2 xs fun x y => onK x M1 fun as => onL y fun bs => Ψ (HN as bs) (fun M2 => onK x M2 fun cs => cs = as) M1
theorem R1 (ta : DTA) (Δ : DSt) (M : Mp) (Ψ : List PyData → (Mp → Prop) → Mp → Prop) : Zb9 ta Δ M Ψ = (ta Δ M fun xs M1 => on2 xs fun x y => onK x M1 fun as => onL y fun bs => Ψ (HN as bs) (fun M2 => onK x M2 fun cs => cs = as) M1) := propext Iff.rfl
theorem Ru {a b : Expr} {elts : List Expr} {x1 : Nat} {tp : Pos} {ta : DTA} {p p2 : Pos} (hg0 : Gl X "zip") (hm : X.mg "zip" = none) (ha : DA X [a, b] ta) (hs : autoParam (starEach [a, b] X.env = [(false, eval a X.env), (false, eval b X.env)]) zz3._auto_1) (hs2 : autoParam (starEach [b] X.env = [(false, eval b X.env)]) zz3._auto_1) :
  DIG X (.Tuple elts x1 tp) (.Call (.Name "zip" p) [a, b] [] p2) (Zb9 ta) := by
 obtain ⟨t1, p1, q1⟩ := ha
 refine ⟨_, Zcn hg0 hm p1 hs hs2, fun σ H Δ M Ψ R dr er h k => ?_⟩
 refine q1 σ H Δ M _ _ dr er h fun vs H1 xs M1 r1 st rv hx => ?_
 replace hx := ZL hx
 obtain ⟨x, y, rfl, hx⟩ := hx
 replace hx := QV hx
 obtain ⟨as, hxa, hx⟩ := hx
 replace hxa : W7 x M1 as := hxa
 replace hx := Ex hx
 obtain ⟨bs, rfl, hΨ⟩ := hx
 obtain ⟨v, u, rfl, hv, hu⟩ := Paired.two rv
 obtain ⟨a, ys, rfl, g1, g2⟩ := hxa.sq r1 hv
 obtain ⟨b, zs, rfl, h3, h4⟩ := hu.lst
 have el : (HN as bs).length = min as.length bs.length := by unfold HN; rw [List.length_zipWith]
 have now : ∀ M2 H2, Step M1 H1 M2 H2 → ZK X.K M2 H2 → (onK x M2 fun cs => cs = as) → ∃ ys, SqL X.K H2 a ys ∧ Dts X.K M2 H2 ys as := fun M2 H2 st2 r2 hg => by
  replace hg := QV hg
  obtain ⟨cs, hc, rfl⟩ := hg
  replace hc : W7 x M2 cs := hc
  have hv2 : Qd X.K M2 H2 (.ref a) x := hv.step st2
  obtain ⟨a', ys', e, k1, k2⟩ := hc.sq r2 hv2
  cases e
  exact ⟨ys', k1, k2⟩
 refine ⟨a, b, rfl, ⟨ys, g1⟩, ⟨zs, h3.sq⟩, k _ H1 M1 _ _ r1 st (fun M2 H2 st2 r2 hG i => ?_) hΨ⟩
 obtain ⟨ws, k1, k2⟩ := now M2 H2 st2 r2 hG
 refine ⟨fun hi => ?_, fun hi => ?_⟩
 ·rw [el] at hi
  have hx : i < ws.length := by rw [k2.length]; omega
  have hy : i < zs.length := by rw [h4.length]; omega
  refine ⟨⟨ws, zs, ws[i], zs[i], k1, by simp [hx], (h3.step st2).sq, by simp [hy]⟩, fun y H' z => ?_⟩
  obtain ⟨T, u, v, hu, hv, hT, rfl, rfl⟩ := z
  intro r
  obtain ⟨d, hd, hy⟩ := k2.Pq (hu ws k1)
  obtain ⟨d', hd', hy'⟩ := (h4.step st2).Pq (hv zs (h3.step st2).sq)
  exact ⟨r.new hT, Step.new hT, _, Nn hd hd', Dt.Wf r hT (.cons hy (.cons hy' .nil))⟩
 ·rw [el] at hi
  exact ⟨ws, zs, k1, (h3.step st2).sq, by rw [k2.length, h4.length]; omega⟩
end
end DL
namespace DL
open PySem PySem.Spec PyProof.Rows L2
section
variable {X : Cx}
def GZ : D1 := fun xs M Φ => on1 xs fun x => onK x M fun ds => Ww ds fun ss => ss.length < 64 ∧ ∀ ss' : List Str, ss'.Perm ss → sortedS ss' = true → ∀ p, M p = none → Φ (.own p) (Zv M p (.lst (ss'.map PyData.str)))
theorem Cf (xs : List DV) (M : Mp) (Φ : DK) : GZ xs M Φ = (on1 xs fun x => onK x M fun ds => Ww ds fun ss => ss.length < 64 ∧ ∀ ss' : List Str, ss'.Perm ss → sortedS ss' = true → ∀ p, M p = none → Φ (.own p) (Zv M p (.lst (ss'.map PyData.str)))) := propext Iff.rfl
theorem Uh : QC X (.builtin "sorted") GZ := by
 refine ⟨_, VH, fun vs H xs M Φ Q r rv h k => ?_⟩
 replace h := ZS h
 obtain ⟨x, rfl, h⟩ := h
 replace h := QV h
 obtain ⟨ds, hx, ss, rfl, h64, q⟩ := h
 replace hx : W7 x M (ss.map PyData.str) := hx
 obtain ⟨v, rfl, h1⟩ := Paired.one rv
 obtain ⟨a, ys, rfl, g1, g2⟩ := hx.sq r h1
 cases Kx g2
 exact ⟨a, ss, rfl, g1, h64, fun ss' a b l hl => k _ _ (.own l) _ (r.VM (Step.Q4 hl) (JY ss')) (Step.Q4 hl) rfl (q ss' a b l (r.tracked hl))⟩
end
end DL
namespace DL
open PySem PySem.Spec PyProof.Rows L2 PySem.W
def Ot (x : DV) (M : Mp) (P : List PyData → Prop) : Prop := match x with | .dat (.list ds) => P ds | .own q => JC (M q) P | _ => False
theorem Nc (q : Addr) (M : Mp) (P : List PyData → Prop) : Ot (.own q) M P = JC (M q) P := propext Iff.rfl
section
variable {X : Cx}
theorem DM {M : Mp} {H : Hp} {v : V} {x : DV} {P : List PyData → Prop} (h : Ot x M P) (r : ZK X.K M H) (rv : Qd X.K M H v x) : ∃ ds, Dt X.K (fun _ => none) H v (.list ds) ∧ P ds := by
 unfold Ot at h
 split at h
 ·exact ⟨_, Dt.step Step.all rv, h⟩
 ·rename_i q
  replace h := Qx h
  obtain ⟨ds, hm, h⟩ := h
  cases (show v = .ref q from rv)
  obtain ⟨vs, g1, g2⟩ := r.ls q ds hm
  exact ⟨ds, .lst (.inl ⟨rfl, .inl g1⟩) (g2.step Step.all), h⟩
 ·exact h.elim
def Zal : D2 := fun x y M Φ => onD x fun d => Ot y M fun ds => okIn d ds = true ∧ Φ (.dat (.bool (ds.any fun e => PyData.eqv e d))) M
theorem SQ (x y : DV) (M : Mp) (Φ : DK) : Zal x y M Φ = (onD x fun d => Ot y M fun ds => okIn d ds = true ∧ Φ (.dat (.bool (ds.any fun e => PyData.eqv e d))) M) := propext Iff.rfl
def GR : D2 := fun x y M Φ => onD x fun d => Ot y M fun ds => okIn d ds = true ∧ Φ (.dat (.bool (!(ds.any fun e => PyData.eqv e d)))) M
theorem CG (x y : DV) (M : Mp) (Φ : DK) : GR x y M Φ = (onD x fun d => Ot y M fun ds => okIn d ds = true ∧ Φ (.dat (.bool (!(ds.any fun e => PyData.eqv e d)))) M) := propext Iff.rfl
theorem Hv {k : Nat} (hr : Ji k X.A) : OpD X (compareOp .In) Zal :=
 ⟨_, OD (by have := hr.un; omega), fun v u H x y M Φ Q r rv ru h k => by
  obtain ⟨d, e1, h⟩ := QK h
  subst e1
  obtain ⟨ds, he, ho, q⟩ := DM h r ru
  obtain ⟨c1, c2, hdp⟩ := UY ho
  exact ⟨_, d, ds, Dt.step Step.all rv, .inl he, c1, c2, hdp, k.dat r Step.refl (Dt.bl _) q⟩⟩
theorem E7 {k : Nat} (hr : Ji k X.A) : OpD X (compareOp .NotIn) GR :=
 ⟨_, Ei (by have := hr.un; omega), fun v u H x y M Φ Q r rv ru h k => by
  obtain ⟨d, e1, h⟩ := QK h
  subst e1
  obtain ⟨ds, he, ho, q⟩ := DM h r ru
  obtain ⟨c1, c2, hdp⟩ := UY ho
  exact ⟨_, d, ds, Dt.step Step.all rv, .inl he, c1, c2, hdp, k.dat r Step.refl (Dt.bl _) q⟩⟩
def Zed (i : Nat) (t : DTS) : DTS := fun D Δ M => onV Δ[i]? fun x => onO x fun l => JC (M l) fun ds => t D (Δ.set i (some (.dat (.list ds)))) (J5 M l)
end
end DL
namespace DL
open PySem PySem.Spec PyProof.Rows L2 PySem.W
noncomputable def Itd (o : Obj) (a : Addr) (ks : List Key) : It :=
 ⟨fun i H => i < ks.length ∧ ∃ kvs, H a = some (.frz o (.dK kvs)) ∧ kvs.map (·.1) = ks, fun i H x H' => H' = H ∧ ∃ k, ks[i]? = some k ∧ x = kV k,
  fun i H => ks.length ≤ i ∧ ∃ kvs, H a = some (.frz o (.dK kvs)) ∧ kvs.map (·.1) = ks⟩
def ZdV (o : Obj) (a it : Addr) (n : Nat) (i : Nat) (h : Heap) : Prop := ∃ es ep, o.data = .dict es ep ∧ h.IsKeyIter it a i n ep
theorem Pu {k : Key} {u : Value} (h : Ua k u = true) : RelV (kV k) u := by
 cases k with
 | inl i => exact PySem.Value.isInt_shape h
 | inr x => exact PySem.Value.isStrOf_shape h
theorem HC {X : Cx} {pins : List (Addr × Obj)} {σ : L2.St} {H : Hp} {s : Shared} {a : Addr} {o : Obj} {kvs : List (Key × V)} (I : L2.Inv X pins σ H s) (e : H a = some (.frz o (.dK kvs))) :
  ∃ vs es ep, KV kvs vs ∧ o.data = .dict es ep ∧ s.heap.DictAt (ZW X.prog X.w) a vs ep ∧ (a == sysModules) = false := by
 obtain ⟨ho, _, hs, vs, rel, o', es, ep, ho', hx, hd, hr⟩ := (show Qh X.prog X.w H s.heap a (.frz o (.dK kvs)) from I.hok a _ e)
 rw [ho] at ho'
 cases ho'
 exact ⟨vs, es, ep, rel, hd, ⟨o, es, ho, hx, hd, hr⟩, hs⟩
theorem E9 {P : Program} {w : World} {K : PySem.W.Frag} {tg : Expr} (o : Obj) (a it : Addr) (ks : List Key) : Turn P w K tg (Itd o a ks) [it] it (ZdV o a it ks.length) where
 mem := by simp
 obj := fun i h st b hb => by
  have e : b = it := by simpa using hb
  subst e
  obtain ⟨es, ep, _, o', e, c, d⟩ := st
  exact ⟨o', e, fun v z => by rw [d] at z; cases z⟩
 keep := fun i h h' st k => let ⟨es, ep, e, st⟩ := st; ⟨es, ep, e, st.at fun o e => k it (by simp) o e⟩
 item := by
  intro X hP hw hK hc i pins s σ H E I hf st hg
  subst hP hw hK
  obtain ⟨hi, kvs, hq, hk⟩ := hg
  obtain ⟨es0, ep0, e0, st⟩ := st
  obtain ⟨vs, es, ep, rel, e1, p, _⟩ := HC I hq
  rw [e0] at e1
  cases e1
  have kl : vs.length = ks.length := by rw [← rel.length, ← hk, List.length_map]
  rw [← kl] at st
  obtain ⟨⟨k, x⟩, hx⟩ : ∃ q, vs[i]? = some q := ⟨vs[i]'(by omega), List.getElem?_eq_getElem (by omega)⟩
  have hki : ks[i]? = some k := by
   rw [← hk, rel.keys, List.getElem?_map, hx]
   rfl
  obtain ⟨f0, f1, f2, f3, f4, f5⟩ := hf it (by simp)
  refine wpAny_pyNext_dict_item st p hx fun key h' hkey st' sb => ?_
  have I1 : L2.Inv X pins σ H { s with heap := h' } := I.turned (t' := s.toks) (fun b o hb e => (sb.2 b hb).trans e) f0 f1 f3 f4 f5
  obtain ⟨o2, e2, c2, d2⟩ := id st'
  exact ⟨key, rfl, LP (s := { s with heap := h' }) e2 c2 d2 (by decide) ⟨kV k, H, I1, Pu hkey, ⟨rfl, k, hki, rfl⟩, ⟨es0, ep0, e0, by rw [← kl]; exact st'⟩, fun b hb => (hf b hb).1⟩⟩
 done := by
  intro X hP hw hK hc i pins s σ H E I hf st hg
  subst hP hw hK
  obtain ⟨hi, kvs, hq, hk⟩ := hg
  obtain ⟨es0, ep0, e0, st⟩ := st
  obtain ⟨vs, es, ep, rel, e1, p, _⟩ := HC I hq
  rw [e0] at e1
  cases e1
  have kl : vs.length = ks.length := by rw [← rel.length, ← hk, List.length_map]
  rw [← kl] at st
  obtain ⟨f0, f1, f2, f3, f4, f5⟩ := hf it (by simp)
  exact wpAny_pyNext_dict_end (I.ok.hd hc) st p (List.getElem?_eq_none (by omega)) fun h' eb => ⟨rfl, I.turned (t' := s.toks) (fun b o hb e => eb b o hb e) f0 f1 f3 f4 f5⟩
 self := fun _ _ _ _ _ st h => let ⟨_, _, _, st⟩ := st; wpAny_pyIter_keyiter st h
section
variable {X : Cx} {tg l : Expr} {tl : TE}
def ZdM (tl : TE) : TI := fun σ H R => tl σ H fun x H1 => ∃ a kvs, x = .ref a ∧ ((H1 a = some (.dK kvs) ∧ ∀ o, R (Itd o a (kvs.map (·.1))) (upd H1 a (.frz o (.dK kvs)))) ∨ ∃ o, H1 a = some (.frz o (.dK kvs)) ∧ R (Itd o a (kvs.map (·.1))) H1)
theorem S4 (hl : PE X l tl) : PI X tg l (ZdM tl) := by
 intro pins s σ H R I h
 refine thn (hl pins s σ H _ I h) fun v s1 ⟨x, H1, I1, r1, q1⟩ => ?_
 obtain ⟨a, kvs, e, q⟩ := q1
 subst e
 cases r1
 have fin : ∀ (H2 : Hp) (o : Obj), L2.Inv X pins σ H2 s1 → H2 a = some (.frz o (.dK kvs)) → R (Itd o a (kvs.map (·.1))) H2 → wpAny (model X.prog X.w) X.A (pyIter (.ref a)) (PIE X pins σ tg R) X.xe s1 := fun H2 o I2 e2 q2 => by
  obtain ⟨vs, es, ep, rel, e1, p, hs⟩ := HC I2 e2
  refine wpAny_pyIter_dict hs p ?_
  have kl : vs.length = (kvs.map (·.1)).length := by rw [← rel.length, List.length_map]
  refine ⟨s1.heap.objs.size, [s1.heap.objs.size], _, _, H2, rfl, I2.kept (t' := s1.toks) fun b o e => Heap.get?_push_of_some _ e, E9 o a _ (kvs.map (·.1)), ⟨es, ep, e1, by rw [← kl]; exact ⟨_, Heap.get?_push_size _ rfl, rfl, rfl⟩⟩, fun b hb => ?_, q2⟩
  have e : b = s1.heap.objs.size := by simpa using hb
  subst e
  exact I2.To (Nat.le_refl _) (I2.hok.fresh (Nat.le_refl _))
 rcases q with ⟨hq, q⟩ | ⟨o, hq, q⟩
 ·obtain ⟨h1, h2, vs, rel, o, es, ep, ho, hr⟩ := Sg I1.hok hq
  have I2 : L2.Inv X pins σ (upd H1 a (.frz o (.dK kvs))) s1 := I1.write (h' := s1.heap) (t' := s1.toks) (e := a) (by rw [hq]; exact trivial) (.inl rfl) (fun _ _ _ z => z) ⟨o, ho⟩ ⟨ho, h1, h2, vs, rel, o, es, ep, ho, hr⟩
  exact fin _ o I2 Z8 (q o)
 ·exact fin H1 o I1 hq q
end
def OL (o : Option OO) (P : List (Key × PyData) → Prop) (Q : Obj → List (Key × PyData) → Prop) : Prop := match o with | some (.dkv ps) => P ps | some (.fdk o ps) => Q o ps | _ => False
theorem Bw (ps : List (Key × PyData)) (P : List (Key × PyData) → Prop) (Q : Obj → List (Key × PyData) → Prop) : OL (some (.dkv ps)) P Q = P ps := propext Iff.rfl
theorem H9 (o : Obj) (ps : List (Key × PyData)) (P : List (Key × PyData) → Prop) (Q : Obj → List (Key × PyData) → Prop) : OL (some (.fdk o ps)) P Q = Q o ps := propext Iff.rfl
theorem PV {o : Option OO} {P : List (Key × PyData) → Prop} {Q : Obj → List (Key × PyData) → Prop} (h : OL o P Q) : (∃ ps, o = some (.dkv ps) ∧ P ps) ∨ ∃ b ps, o = some (.fdk b ps) ∧ Q b ps := by
 unfold OL at h
 split at h
 ·exact .inl ⟨_, rfl, h⟩
 ·exact .inr ⟨_, _, rfl, h⟩
 ·exact h.elim
theorem Zb5 {K : PySem.W.Frag} {M : Mp} {H : Hp} (k : Key) : Dt K M H (kV k) (kD k) := by
 cases k with
 | inl i => exact Dt.int i
 | inr x => exact Dt.str x
section
variable {X : Cx} {tg iter : Expr} {te : DTE} {g : DTG} {tb : DTS} {body : List Stmt} {pos : Pos}
def Zbz (te : DTE) : YZ := fun Δ M Ψ => te Δ M fun x M1 => onO x fun l => OL (M1 l) (fun ps => ∀ o, Ψ (ps.map fun p => kD p.1) (fun M2 => M2 l = some (.fdk o ps)) (Zv M1 l (.fdk o ps))) fun o ps => Ψ (ps.map fun p => kD p.1) (fun M2 => M2 l = some (.fdk o ps)) M1
theorem Tr (te : DTE) (Δ : DSt) (M : Mp) (Ψ : List PyData → (Mp → Prop) → Mp → Prop) : Zbz te Δ M Ψ = (te Δ M fun x M1 => onO x fun l => OL (M1 l) (fun ps => ∀ o, Ψ (ps.map fun p => kD p.1) (fun M2 => M2 l = some (.fdk o ps)) (Zv M1 l (.fdk o ps))) fun o ps => Ψ (ps.map fun p => kD p.1) (fun M2 => M2 l = some (.fdk o ps)) M1) := propext Iff.rfl
theorem Eb {K : PySem.W.Frag} {M : Mp} {H : Hp} {l : Addr} {o : Obj} {ps : List (Key × PyData)} {ks : List Key} (hk : ks = ps.map (·.1)) : YlG K (Itd o l ks) (ps.map fun p => kD p.1) (fun M2 => M2 l = some (.fdk o ps)) M H := by
 subst hk
 intro M2 H2 st2 r2 hG i
 obtain ⟨kvs, g1, g2, g3⟩ := (show OOk K M2 H2 l (.fdk o ps) from r2.ok l _ hG)
 rw [List.length_map]
 refine ⟨fun hi => ⟨⟨by rw [List.length_map]; exact hi, kvs, g1, g2⟩, fun y H' z r => ?_⟩, fun hi => ⟨by rw [List.length_map]; exact hi, kvs, g1, g2⟩⟩
 obtain ⟨rfl, k, ek, rfl⟩ := z
 refine ⟨r, Step.refl, kD k, ?_, Zb5 k⟩
 rw [List.getElem?_map] at ek ⊢
 cases q : ps[i]? with
 | none => rw [q] at ek; cases ek
 | some p =>
  rw [q] at ek
  cases ek
  rfl
theorem Dj (he : DE X iter te) : DIG X tg iter (Zbz te) := by
 obtain ⟨t1, p1, q1⟩ := he
 refine ⟨_, S4 p1, fun σ H Δ M Ψ R dr er h k => ?_⟩
 refine q1 σ H Δ M _ _ dr er h fun v H1 x M1 r1 st rv hx => ?_
 replace hx := ZU hx
 obtain ⟨l, rfl, hx⟩ := hx
 cases (show v = .ref l from rv)
 rcases PV hx with ⟨ps, hm, hx⟩ | ⟨o, ps, hm, hx⟩
 ·obtain ⟨kvs, g1, g2, g3⟩ := (show OOk X.K M1 H1 l (.dkv ps) from r1.ok l _ hm)
  refine ⟨l, kvs, rfl, .inl ⟨g1, fun o => ?_⟩⟩
  have st2 : Step M1 H1 (Zv M1 l (.fdk o ps)) (upd H1 l (.frz o (.dK kvs))) := Step.VL hm
  exact k _ _ _ _ _ (r1.G9 st2 ⟨kvs, Z8, g2, g3.step st2⟩) (st.trans st2) (Eb g2) (hx o)
 ·obtain ⟨kvs, g1, g2, g3⟩ := (show OOk X.K M1 H1 l (.fdk o ps) from r1.ok l _ hm)
  exact ⟨l, kvs, rfl, .inr ⟨o, g1, k _ _ _ _ _ r1 st (Eb g2) hx⟩⟩
def Er (G : Mp → Prop) (g : DTG) (tb : DTS) (D : Qe) (ds : List PyData) (Δ : DSt) (M : Mp) : Prop :=
 ∃ J : Nat → DSt → Mp → Prop, (∀ i Δ M, J i Δ M → G M) ∧ J 0 Δ M ∧ (∀ i d Δ M, ds[i]? = some d → J i Δ M → g (.dat d) Δ M fun Δ2 M2 => tb { D with nx := J (i + 1), ct := J (i + 1), bk := D.nx } Δ2 M2) ∧ ∀ Δ M, J ds.length Δ M → D.nx Δ M
def ZbT (src : YZ) (g : DTG) (tb : DTS) : DTS := fun D Δ M => src Δ M fun ds G M1 => Er G g tb D ds Δ M1
theorem Sb (src : YZ) (g : DTG) (tb : DTS) (D : Qe) (Δ : DSt) (M : Mp) : ZbT src g tb D Δ M = (src Δ M fun ds G M1 => Er G g tb D ds Δ M1) := propext Iff.rfl
theorem RA {src : YZ} (hi : DIG X tg iter src) (hg : DG X tg g) (hb : DSs X body tb) (hp : PassesOwn (model X.prog X.w) X.A X.env X.xe) (hc : X.calm = true) (hs : autoParam (∀ x, foldedSetIterable iter X.env x = pure x) zz2._auto_1) :
  DS X (.For tg iter body [] pos) (ZbT src g tb) := by
 obtain ⟨wi, p1, q1⟩ := hi
 obtain ⟨t2, p2, q2⟩ := hg
 obtain ⟨t3, p3, q3⟩ := hb
 refine ⟨_, We hp hc p1 p2 p3 hs, fun σ H Δ M D E r e h k => ?_⟩
 refine q1 σ H Δ M _ _ r e h fun J H1 M1 ds G r1 st yl hx => ?_
 obtain ⟨I, jg, j0, jt, jd⟩ := hx
 refine ⟨fun i m σ H => (∃ Δ M, ZK X.K M H ∧ Step M1 H1 M H ∧ QJ X.K M H σ Δ ∧ I i Δ M) ∧ i + m = ds.length, ⟨ds.length, ⟨Δ, M1, r1, Step.refl, e.step st, j0⟩, Nat.zero_add _⟩, fun i m σ H hW => ?_⟩
 obtain ⟨⟨Δ, M, r', st', e', j⟩, hm⟩ := hW
 by_cases hi : i < ds.length
 ·obtain ⟨go, yd⟩ := (yl M H st' r' (jg i Δ M j) i).1 hi
  refine .inr ⟨go, fun σ' H' => ∃ Δ' M', ZK X.K M' H' ∧ Step M1 H1 M' H' ∧ QJ X.K M' H' σ' Δ' ∧ I (i + 1) Δ' M', fun σ' H' h => ⟨m - 1, by omega, h, by omega⟩, fun x H' hy => ?_⟩
  obtain ⟨r2, st2, d, hd, hv⟩ := yd x H' hy r'
  refine q2 x σ H' (.dat d) Δ M _ _ r2 (e'.step st2) hv (jt i d Δ M hd j) fun σ3 H3 Δ3 M3 r3 st3 e3 hb3 => ?_
  refine q3 σ3 H3 Δ3 M3 _ _ r3 e3 hb3 ?_
  have s12 : Step M1 H1 M3 H3 := (st'.trans st2).trans st3
  exact ⟨fun σ' H' Δ' M' a b c d => ⟨Δ', M', a, s12.trans b, c, d⟩, k.rt.step (st.trans s12), fun σ' H' Δ' M' a b c d => k.nx σ' H' Δ' M' a ((st.trans s12).trans b) c d,
   fun σ' H' Δ' M' a b c d => ⟨Δ', M', a, s12.trans b, c, d⟩⟩
 ·have ei : i = ds.length := by omega
  refine .inl ⟨(yl M H st' r' (jg i Δ M j) i).2 (by omega), ?_⟩
  rw [ei] at j
  exact k.nx σ H Δ M r' (st.trans st') e' (jd Δ M j)
end
def HR (o : Option OO) (P : List (Key × PyData) → Prop) : Prop := match o with | some (.dkv ps) => P ps | some (.fdk _ ps) => P ps | _ => False
theorem GV (ps : List (Key × PyData)) (P : List (Key × PyData) → Prop) : HR (some (.dkv ps)) P = P ps := propext Iff.rfl
theorem Ye (o : Obj) (ps : List (Key × PyData)) (P : List (Key × PyData) → Prop) : HR (some (.fdk o ps)) P = P ps := propext Iff.rfl
theorem Fq {K : PySem.W.Frag} {M : Mp} {H : Hp} {l : Addr} {P : List (Key × PyData) → Prop} (h : HR (M l) P) (r : ZK K M H) : ∃ ps kvs, Rd H l (.dK kvs) ∧ KD K M H kvs ps ∧ P ps := by
 unfold HR at h
 split at h
 ·rename_i ps e
  obtain ⟨kvs, g1, g2⟩ := r.dk e
  exact ⟨_, kvs, .inl g1, g2, h⟩
 ·rename_i o ps e
  obtain ⟨kvs, g1, g2, g3⟩ := (show OOk K M H l (.fdk o ps) from r.ok l _ e)
  exact ⟨_, kvs, .inr ⟨o, g1⟩, KD.of g2 g3, h⟩
 ·exact h.elim
section
variable {X : Cx} {o i : Expr} {td ti : DTE} {pos : Pos}
def ZbV (td ti : DTE) : DTE := fun Δ M Φ => td Δ M fun x M1 => ti Δ M1 fun y M2 => onO x fun l => onS y fun s => HR (M2 l) fun ps => ∃ d, Qp ps (.inr s) = some d ∧ Φ (.dat d) M2
theorem Tt (td ti : DTE) (Δ : DSt) (M : Mp) (Φ : DK) : ZbV td ti Δ M Φ = (td Δ M fun x M1 => ti Δ M1 fun y M2 => onO x fun l => onS y fun s => HR (M2 l) fun ps => ∃ d, Qp ps (.inr s) = some d ∧ Φ (.dat d) M2) := propext Iff.rfl
theorem UQ {k : Nat} (hr : Ji k X.A) (ho : DE X o td) (hi : DE X i ti) (hs : autoParam (ZbS i) zz7._auto_1) : DE X (.Subscript o i pos) (ZbV td ti) := by
 obtain ⟨t1, p1, q1⟩ := ho
 obtain ⟨t2, p2, q2⟩ := hi
 refine ⟨_, Uu (by have := hr.un; omega) p1 p2 hs, fun σ H Δ M Φ Q r e h k => ?_⟩
 refine q1 σ H Δ M _ _ r e h fun v H1 x M1 r1 st1 rv hx => ?_
 refine q2 σ H1 Δ M1 _ _ r1 (e.step st1) hx fun w H2 y M2 r2 st2 rw2 hy => ?_
 replace hy := ZU hy
 obtain ⟨l, rfl, hy⟩ := hy
 replace hy := Jm hy
 obtain ⟨s, rfl, hy⟩ := hy
 obtain ⟨ps, kvs, g1, g2, d, hd, q⟩ := Fq hy r2
 cases (show v = .ref l from rv)
 cases rw2.str
 rcases g2.val (.inr s) with ⟨_, b⟩ | ⟨u, d', a, b, du⟩
 ·rw [hd] at b
  cases b
 ·rw [hd] at b
  cases b
  exact ⟨l, u, rfl, .inl ⟨kvs, .inr s, g1, rfl, a.symm⟩, k.dat r2 (st1.trans st2) du q⟩
theorem Ef : QF X (.builtin "len") (fun xs H Q => ∃ a kvs, xs = [.ref a] ∧ Rd H a (.dK kvs) ∧ Q (.int kvs.length) H) := by
 intro pins s σ H xs us Q I r h
 obtain ⟨a, kvs, rfl, ha, q⟩ := h
 obtain ⟨u, rfl, rx⟩ := vals1 r
 cases rx
 exact ZaR I ha fun t s' I' => ⟨.int kvs.length, H, I', ⟨t, rfl⟩, q⟩
def Oy : D1 := fun xs M Φ => on1 xs fun x => onO x fun l => HR (M l) fun ps => Φ (.dat (.int ps.length)) M
theorem Lr (xs : List DV) (M : Mp) (Φ : DK) : Oy xs M Φ = (on1 xs fun x => onO x fun l => HR (M l) fun ps => Φ (.dat (.int ps.length)) M) := propext Iff.rfl
theorem So : QC X (.builtin "len") Oy := by
 refine ⟨_, Ef, fun vs H xs M Φ Q r rv h k => ?_⟩
 replace h := ZS h
 obtain ⟨x, rfl, h⟩ := h
 replace h := ZU h
 obtain ⟨l, rfl, h⟩ := h
 obtain ⟨ps, kvs, g1, g2, q⟩ := Fq h r
 obtain ⟨v, rfl, h1⟩ := Paired.one rv
 cases (show v = .ref l from h1)
 exact ⟨l, kvs, rfl, g1, by rw [g2.length]; exact k.dat r Step.refl (Dt.int _) q⟩
end
end DL
namespace DL
open PySem PySem.Spec PyProof.Rows L2 PySem.W
noncomputable def HQ : PyData → Option (Int × Str)
 | .tuple [.int i, .str s] => some (i, s)
 | _ => none
theorem Pj {d : PyData} {n : Int} {s : Str} (h : HQ d = some (n, s)) : d = .tuple [.int n, .str s] := by
 unfold HQ at h
 split at h
 ·cases h
  rfl
 ·cases h
section
variable {X : Cx}
def Zbx (K : PySem.W.Frag) : List V → Hp → VK → Prop := fun xs H Q => ∃ (p : Addr) (M : Mp) (vs : List V) (ds : List PyData) (ks : List (Int × Str)), xs = [.ref p] ∧ SqL K H p vs ∧ Dts K M H vs ds ∧ ds.map HQ = ks.map some ∧ ks.Nodup ∧ ds.length < 64 ∧
 ∀ q, Pm ds.length q → Up (RE ks) q ds.length → ∀ l, H l = none → Q (.ref l) (upd H l (.lst (q.toList.map fun i => vs.getD i .non)))
theorem WB {kk : Nat} (hr : Ji kk X.A) : QF X (.builtin "sorted") (Zbx X.K) := by
 intro pins s σ H xs us Q I r h
 obtain ⟨p, M, vs, ds, ks, rfl, hq, hd, hk, nd, few, q⟩ := h
 obtain ⟨u, rfl, rx⟩ := vals1 r
 cases rx
 obtain ⟨its, rv, pl, _⟩ := I.list hq
 have n1 := rv.length
 have n2 := hd.length
 have n3 : ds.length = ks.length := by have := congrArg List.length hk; simpa using this
 have row : ∀ i, i < its.length → ∃ (a : Addr) (n : Int) (z : Str) (tn tz : Tok), ks.getD i (0, Str.empty) = (n, z) ∧ its[i]? = some (.ref a) ∧ IsTup s.heap a [Value.int n tn, Value.str z tz].toArray := fun i hi => by
  have hi1 : i < ds.length := by omega
  obtain ⟨v, ev, dv⟩ := hd.get (i := i) (d := ds[i]) (by simp [hi1])
  obtain ⟨u, eu, ru⟩ := rv.get ev
  have ek : HQ ds[i] = some (ks.getD i (0, Str.empty)) := by
   have := congrArg (·[i]?) hk
   simp only [List.getElem?_map, List.getElem?_eq_getElem hi1, List.getElem?_eq_getElem (show i < ks.length by omega), Option.map_some] at this
   rw [Option.some.inj this, List.getD_eq_getElem?_getD, List.getElem?_eq_getElem (show i < ks.length by omega)]
   rfl
  generalize hks : ks.getD i (0, Str.empty) = kz at ek
  obtain ⟨n, z⟩ := kz
  rw [Pj ek] at dv
  cases dv with
  | tup t1 t2 =>
   cases (show u = .ref _ from ru)
   obtain ⟨js, rt, it, _⟩ := I.tuple t1.sq
   cases t2 with
   | cons a1 a2 =>
    cases a1
    cases a2 with
    | cons a2 a3 =>
     cases a3
     cases a2
     cases rt with
     | cons b1 b2 =>
      obtain ⟨tn, rfl⟩ := b1
      cases b2 with
      | cons b2 b3 =>
       cases b3
       obtain ⟨tz, rfl⟩ := b2
       exact ⟨_, n, z, tn, tz, rfl, eu, it⟩
 have some_ : ∀ i, i < its.length → its[i]? = some (its.getD i Value.none) := fun i hi => by simp [hi]
 refine Kt (kd := tuples' true) (Bg ks) pl.isList (by omega) (fun two h1 kp E' R hR => ?_) (fun h1 kp i j hi hj hn C hC => ?_) fun q' pm pu => ?_
 ·have tups : ∀ (l : List Value), (∀ v ∈ l, ∃ (a : Addr) (n : Int) (t : Tok) (y : Value), v = .ref a ∧ IsTup s.heap a [Value.int n t, y].toArray) → ∃ fs, KatTups h1 l fs ∧ fs.length = l.length ∧ ∀ v ∈ fs, ∃ n t, v = Value.int n t := fun l => by
   induction l with
   | nil => intro _; exact ⟨[], .nil, rfl, fun v hv => (nomatch hv)⟩
   | cons v l ih =>
    intro hl
    obtain ⟨a, n, t, y, rfl, ob, ho, hc, c, hd⟩ := hl v List.mem_cons_self
    obtain ⟨fs, i1, i2, i3⟩ := ih fun v hv => hl v (List.mem_cons_of_mem _ hv)
    refine ⟨.int n t :: fs, .cons (kp a ob ho) hc hd (by simp) i1, by rw [List.length_cons, List.length_cons, i2], fun v hv => ?_⟩
    rcases List.mem_cons.mp hv with rfl | hv
    ·exact ⟨n, t, rfl⟩
    ·exact i3 v hv
  obtain ⟨fs, k1, k2, k3⟩ := tups its fun v hv => by
   obtain ⟨i, hi, rfl⟩ := List.getElem_of_mem hv
   obtain ⟨a, n, z, tn, tz, _, e, r⟩ := row i hi
   rw [List.getElem?_eq_getElem hi] at e
   exact ⟨a, n, tn, _, Option.some.inj e, r⟩
  exact kat_kind (T := Value.type "int") (s := { s with heap := h1 }) k1 (by omega) (fun v hv => by obtain ⟨z, t, rfl⟩ := k3 v hv; exact .now) rfl hR
 ·obtain ⟨a, n, z, tn, tz, ea, e, ⟨ob, ho, hc, c, hd⟩⟩ := row i hi
  obtain ⟨a', n', z', tn', tz', ea', e', ⟨ob', ho', hc', c', hd'⟩⟩ := row j hj
  have e1 : its.getD i Value.none = .ref a := by have := some_ i hi; rw [e] at this; exact (Option.some.inj this).symm
  have e2 : its.getD j Value.none = .ref a' := by have := some_ j hj; rw [e'] at this; exact (Option.some.inj this).symm
  have ne : ks.getD i (0, Str.empty) ≠ ks.getD j (0, Str.empty) := fun z => by
   have hi2 : i < ks.length := by omega
   have hj2 : j < ks.length := by omega
   simp only [List.getD_eq_getElem?_getD, List.getElem?_eq_getElem hi2, List.getElem?_eq_getElem hj2, Option.getD_some] at z
   exact hn (Vi nd hi2 hj2 z)
  have el : RE ks i j = decide (n < n' ∨ n = n' ∧ z.cps.toList < z'.cps.toList) := by unfold RE; rw [ea, ea']
  rw [ea, ea'] at ne
  rw [e1, e2]
  rw [el] at hC
  refine kat_lt (s := { s with heap := h1 }) (kp a ob ho) hd (kp a' ob' ho') hd' ?_
  refine kat_cons ((PySem.SeqAt.EqAt.int_int n tn n' tn') _ _ _ _ (kat_go (fun y => ?_) fun y => kat_no (oneLt_int ?_)))
  ·have en : n = n' := by simpa using y
   subst en
   have nz : z ≠ z' := fun q => ne (by rw [q])
   refine kat_yes (kat_cons (eqBool_str (kat_go (fun q => absurd q (by simpa using nz)) fun _ => kat_no (kat_one _ _ (PySem.P.lt_str ?_)))))
   show C _ _
   rw [show decide (n < n ∨ n = n ∧ z.cps.toList < z'.cps.toList) = decide (z.cps.toList < z'.cps.toList) by rw [decide_eq_decide]; simp] at hC
   exact hC
  ·have nn : n ≠ n' := by simpa using y
   rw [show decide (n < n' ∨ n = n' ∧ z.cps.toList < z'.cps.toList) = decide (n < n') by rw [decide_eq_decide]; simp [nn]] at hC
   exact hC
 ·obtain ⟨e, he⟩ := sortedAll_at s.heap its (W4 its q')
  have hn : H (s.heap.objs.size + 1) = none := I.hok.fresh (Nat.le_succ _)
  have el : its.length = ds.length := by omega
  rw [el] at pm pu
  have hz := pm.size
  refine ⟨.ref (s.heap.objs.size + 1), _, I.laid (t' := s.toks) (a := s.heap.objs.size + 1) (o := .lst (q'.toList.map fun i => vs.getD i .non)) (fun _ _ => sortedAll_old) (Nat.le_succ _) ?_, rfl, q q' pm pu _ hn⟩
  refine ⟨?_, q'.toList.map fun i => its.getD i Value.none, e, ?_, he⟩
  ·rw [List.length_map, Array.length_toList, sizeLine_eq]
   omega
  ·have go : ∀ l : List Nat, (∀ i ∈ l, i < its.length) → Vals (l.map fun i => vs.getD i V.non) (l.map fun i => its.getD i Value.none) := fun l => by
    induction l with
    | nil => intro _; exact .nil
    | cons i l ih =>
     intro hl
     have hi := hl i List.mem_cons_self
     have hi1 : i < vs.length := by omega
     obtain ⟨u, eu, ru⟩ := rv.get (i := i) (x := vs[i]) (by simp [hi1])
     refine .cons ?_ (ih fun j hj => hl j (List.mem_cons_of_mem _ hj))
     have x1 : vs.getD i V.non = vs[i] := by simp [hi1]
     have x2 : its.getD i Value.none = u := by have := some_ i hi; rw [eu] at this; exact (Option.some.inj this).symm
     show L2.RelV (vs.getD i V.non) (its.getD i Value.none)
     rw [x1, x2]
     exact ru
   refine go _ fun i hi => ?_
   obtain ⟨k, hk, rfl⟩ := List.getElem_of_mem hi
   have := pm.below (k := k) (by rw [Array.length_toList] at hk; omega)
   rw [el]
   simpa [at', show k < q'.size by simpa using hk] using this
def Zfy (a b : PyData) : Prop := ∀ s t, HQ a = some s → HQ b = some t → ¬ (t.1 < s.1 ∨ t.1 = s.1 ∧ t.2.cps.toList < s.2.cps.toList)
theorem TH {ds : List PyData} {ks : List (Int × Str)} (hk : ds.map HQ = ks.map some) {i : Nat} (hi : i < ds.length) : HQ (ds.getD i .none) = some (ks.getD i (0, Str.empty)) := by
 have n3 : ds.length = ks.length := by have := congrArg List.length hk; simpa using this
 have := congrArg (·[i]?) hk
 simp only [List.getElem?_map, List.getElem?_eq_getElem hi, List.getElem?_eq_getElem (show i < ks.length by omega), Option.map_some] at this
 rw [List.getD_eq_getElem?_getD, List.getD_eq_getElem?_getD, List.getElem?_eq_getElem hi, List.getElem?_eq_getElem (show i < ks.length by omega)]
 exact Option.some.inj this
def C2 : D1 := fun xs M Φ => on1 xs fun x => onK x M fun ds => ∃ ks : List (Int × Str), ds.map HQ = ks.map some ∧ ks.Nodup ∧ ds.length < 64 ∧ ∀ ds' : List PyData, ds'.Perm ds → ds'.Pairwise Zfy → Φ (.dat (.list ds')) M
theorem CY (xs : List DV) (M : Mp) (Φ : DK) : C2 xs M Φ = (on1 xs fun x => onK x M fun ds => ∃ ks : List (Int × Str), ds.map HQ = ks.map some ∧ ks.Nodup ∧ ds.length < 64 ∧ ∀ ds' : List PyData, ds'.Perm ds → ds'.Pairwise Zfy → Φ (.dat (.list ds')) M) := propext Iff.rfl
theorem Cu {kk : Nat} (hr : Ji kk X.A) : QC X (.builtin "sorted") C2 := by
 refine ⟨_, WB hr, fun vs H xs M Φ Q r rv h k => ?_⟩
 replace h := ZS h
 obtain ⟨x, rfl, h⟩ := h
 replace h := QV h
 obtain ⟨ds, hx, ks, hk, nd, few, q⟩ := h
 replace hx : W7 x M ds := hx
 obtain ⟨v, rfl, h1⟩ := Paired.one rv
 obtain ⟨a, ys, rfl, g1, g2⟩ := hx.sq r h1
 refine ⟨a, M, ys, ds, ks, rfl, g1, g2, hk, nd, few, fun p pm pu l hl => ?_⟩
 have hz := pm.size
 have pl : p.toList.Perm (List.range ds.length) := by
  have := Array.perm_iff_toList_perm.mp pm
  simpa using this
 have go : ∀ l : List Nat, (∀ i ∈ l, i < ds.length) → Dts X.K M H (l.map fun i => ys.getD i V.non) (l.map fun i => ds.getD i PyData.none) := fun l => by
  induction l with
  | nil => intro _; exact .nil
  | cons i l ih =>
   intro hl
   have hi := hl i List.mem_cons_self
   obtain ⟨v, ev, dv⟩ := g2.get (i := i) (d := ds[i]) (by simp [hi])
   refine .cons ?_ (ih fun j hj => hl j (List.mem_cons_of_mem _ hj))
   show Dt X.K M H (ys.getD i V.non) (ds.getD i PyData.none)
   rw [List.getD_eq_getElem?_getD, List.getD_eq_getElem?_getD, ev, List.getElem?_eq_getElem hi]
   exact dv
 have mem : ∀ i ∈ p.toList, i < ds.length := fun i hi => by
  have := pl.mem_iff.mp hi
  simpa using this
 refine k.dat (r.new hl) (Step.new hl) (Dt.Jl r hl (go _ mem)) (q _ ?_ ?_)
 ·have := pl.map fun i => ds.getD i PyData.none
  rwa [map_range] at this
 ·rw [List.pairwise_iff_getElem]
  intro i j hi hj hij s t es et
  rw [List.length_map] at hi hj
  rw [List.getElem_map] at es et
  have hi' : i < p.size := by simpa using hi
  have hj' : j < p.size := by simpa using hj
  rw [TH hk (mem _ (List.getElem_mem _))] at es et
  have u := pu i j (by omega) (by omega)
  have u' := of_decide_eq_false u
  have a1 : at' p i = p.toList[i] := by simp [at', hi']
  have a2 : at' p j = p.toList[j] := by simp [at', hj']
  rw [a1, a2] at u'
  rw [Option.some.inj es, Option.some.inj et] at u'
  exact u'
def N8 (to : DTE) : DTE := fun Δ M Φ => to Δ M fun x M1 => onO x fun l => JC (M1 l) fun _ => Φ (.dat .none) (Zv M1 l (.lst []))
theorem NO (to : DTE) (Δ : DSt) (M : Mp) (Φ : DK) : N8 to Δ M Φ = (to Δ M fun x M1 => onO x fun l => JC (M1 l) fun _ => Φ (.dat .none) (Zv M1 l (.lst []))) := propext Iff.rfl
theorem NM {o : Expr} {to : DTE} {apos cpos : Pos} (ho : DE X o to) (hbase : autoParam (attributeBase o "clear" X.env (eval o X.env) = eval o X.env) zz3._auto_1) (hline : autoParam ((apos.endLine == cpos.line) = true) zz3._auto_1) :
  DE X (.Call (.Attribute o "clear" apos) [] [] cpos) (N8 to) := by
 obtain ⟨t1, p1, q1⟩ := ho
 refine ⟨_, Zbc PySem.F.plainAttrs_list PySem.F.slot_list_clear PySem.F.type_list_clear Mx p1 hbase hline, fun σ H Δ M Φ Q r e h k => ?_⟩
 refine q1 σ H Δ M _ _ r e h fun v H1 x M1 r1 st rv hx => ?_
 replace hx := ZU hx
 obtain ⟨l, rfl, hx⟩ := hx
 replace hx := Qx hx
 obtain ⟨ds, hm, hx⟩ := hx
 cases (show v = .ref l from rv)
 obtain ⟨vs, g1, g2⟩ := r1.ls l _ hm
 refine ⟨.inl ⟨rfl, _, SqL.of g1⟩, l, _, rfl, rfl, g1, ?_⟩
 have st2 : Step M1 H1 (Zv M1 l (.lst [])) (upd H1 l (.lst [])) := Step.VL hm
 exact k.dat (r1.VM st2 .nil) (st.trans st2) Dt.non hx
end
end DL
namespace My
open PySem PySem.Spec PyProof.Rows L2 DL
set_option maxHeartbeats 8000000
noncomputable def top (i : Nat) : Stmt := PySem.Challenge.pw_landsentered_k22_looks_within_lands.main.body.getD i (.Pass ⟨0, 0, 0, 0⟩)
noncomputable abbrev Qs : Stmt := top 1
noncomputable abbrev QG : Stmt := top 2
noncomputable abbrev Z0 : Stmt := top 3
noncomputable abbrev CJ : Stmt := top 4
noncomputable abbrev JF : Stmt := top 5
noncomputable abbrev JE : Stmt := top 6
noncomputable abbrev QO : Stmt := top 7
noncomputable abbrev Qr : Stmt := top 8
noncomputable abbrev Xf : Stmt := top 10
noncomputable abbrev Z4 : Stmt := top 11
noncomputable abbrev Vb : Stmt := top 13
noncomputable abbrev JI : Stmt := top 14
noncomputable abbrev ZO : Stmt := top 15
noncomputable abbrev Vx : Stmt := top 16
noncomputable abbrev Cm : Stmt := top 18
noncomputable abbrev Xa : Stmt := top 19
noncomputable abbrev QY : Stmt := top 20
noncomputable abbrev J2 : Stmt := top 21
noncomputable abbrev Vw : Stmt := top 22
noncomputable abbrev Vt : Stmt := top 23
noncomputable abbrev Xe : Stmt := top 24
noncomputable abbrev Xb : Stmt := top 25
noncomputable abbrev Yj : Stmt := top 26
noncomputable abbrev J9 : Stmt := top 27
noncomputable abbrev Qt : Stmt := top 28
noncomputable abbrev JH : Stmt := top 29
noncomputable abbrev YA : Stmt := top 30
noncomputable abbrev Vu : Stmt := top 31
noncomputable abbrev Vy : Stmt := top 32
noncomputable abbrev J7 : Stmt := top 33
noncomputable abbrev Z3 : Stmt := top 34
noncomputable abbrev Gk : Stmt := top 35
theorem Wl : Zt ["box"] ["box"] (Zf Qs) := ⟨rfl, rfl, rfl, by decide +kernel, rfl, by decide +kernel, by decide +kernel⟩
theorem Gn : Zt ["box", "spot"] ["box", "spot"] (Zf QG) := ⟨rfl, rfl, rfl, by decide +kernel, rfl, by decide +kernel, by decide +kernel⟩
theorem VX : Zt ["one", "other"] ["one", "other"] (Zf Z0) := ⟨rfl, rfl, rfl, by decide +kernel, rfl, by decide +kernel, by decide +kernel⟩
theorem Zcf : Zt ["one", "other", "way"] ["one", "other", "way"] (Zf CJ) := ⟨rfl, rfl, rfl, by decide +kernel, rfl, by decide +kernel, by decide +kernel⟩
theorem E6 : Zt ["spot", "r"] ["spot", "r"] (Zf JF) := ⟨rfl, rfl, rfl, by decide +kernel, rfl, by decide +kernel, by decide +kernel⟩
theorem Yh : Zt ["one", "other", "low", "high"] ["one", "other"] (Zf JE) := ⟨rfl, rfl, rfl, by decide +kernel, rfl, by decide +kernel, by decide +kernel⟩
theorem QI : Zt ["one", "other", "middle", "left", "right", "below", "above"] ["one", "other"] (Zf QO) := ⟨rfl, rfl, rfl, by decide +kernel, rfl, by decide +kernel, by decide +kernel⟩
theorem Qi : Zt ["box", "others", "pieces", "other", "rest", "piece"] ["box", "others"] (Zf Qr) := ⟨rfl, rfl, rfl, by decide +kernel, rfl, by decide +kernel, by decide +kernel⟩
theorem Py : Zt ["shape", "wobble", "spot"] ["shape", "wobble", "spot"] (Zf Xf) := ⟨rfl, rfl, rfl, by decide +kernel, rfl, by decide +kernel, by decide +kernel⟩
theorem KA : Zt ["pieces", "spot"] ["pieces", "spot"] (Zf Z4) := ⟨rfl, rfl, rfl, by decide +kernel, rfl, by decide +kernel, by decide +kernel⟩
theorem Vq : Zt ["lands", "land", "outers", "at", "many"] ["lands", "land"] (Zf Vb) := ⟨rfl, rfl, rfl, by decide +kernel, rfl, by decide +kernel, by decide +kernel⟩
theorem YW : Zt ["lands", "held", "spot", "told", "row"] ["lands", "held", "spot"] (Zf JI) := ⟨rfl, rfl, rfl, by decide +kernel, rfl, by decide +kernel, by decide +kernel⟩
theorem JP : Zt ["lands", "ranked"] ["lands"] (Zf ZO) := ⟨rfl, rfl, rfl, by decide +kernel, rfl, by decide +kernel, by decide +kernel⟩
theorem GW : Zt ["row", "held", "spot", "found"] ["row", "held", "spot"] (Zf Vx) := ⟨rfl, rfl, rfl, by decide +kernel, rfl, by decide +kernel, by decide +kernel⟩
theorem GO : Zt ["_law_script", "_law_k", "_law_cell"] ["_law_script", "_law_k"] (Zf Cm) := ⟨rfl, rfl, rfl, by decide +kernel, rfl, by decide +kernel, by decide +kernel⟩
theorem Kq : Zt ["_law_pen_here", "_law_many", "_law_mixed", "_law_drawn"] ["_law_pen_here", "_law_many"] (Zf Xa) := ⟨rfl, rfl, rfl, by decide +kernel, rfl, by decide +kernel, by decide +kernel⟩
theorem QS : Zt ["_law_pen_here", "_law_many", "_law_letters", "_law_base", "_law_long", "_law_at", "_law_found", "_law_k", "_law_signs"] ["_law_pen_here", "_law_many"] (Zf QY) := ⟨rfl, rfl, rfl, by decide +kernel, rfl, by decide +kernel, by decide +kernel⟩
theorem Nk : Zt ["_law_found", "_law_due"] ["_law_found", "_law_due"] (Zf J2) := ⟨rfl, rfl, rfl, by decide +kernel, rfl, by decide +kernel, by decide +kernel⟩
theorem Bd : Zt ["_law_pen_here", "_law_far"] ["_law_pen_here"] (Zf Vw) := ⟨rfl, rfl, rfl, by decide +kernel, rfl, by decide +kernel, by decide +kernel⟩
theorem Qk : Zt ["_law_pen_here", "_law_found", "_law_k", "_law_wide", "_law_high", "_law_x", "_law_y", "_law_low", "_law_top"] ["_law_pen_here"] (Zf Vt) := ⟨rfl, rfl, rfl, by decide +kernel, rfl, by decide +kernel, by decide +kernel⟩
theorem PJ : Zt ["_law_frame_here", "_law_spot_here", "_law_more"] ["_law_frame_here", "_law_spot_here", "_law_more"] (Zf Xe) := ⟨rfl, rfl, rfl, by decide +kernel, rfl, by decide +kernel, by decide +kernel⟩
theorem Yq : Zt ["_law_pen_here", "_law_house_here", "_law_one", "_law_other", "_law_small", "_law_frame_here"] ["_law_pen_here", "_law_house_here"] (Zf Xb) := ⟨rfl, rfl, rfl, by decide +kernel, rfl, by decide +kernel, by decide +kernel⟩
theorem QZ : Zt ["_law_pen_here", "_law_house_here", "_law_boxes_here", "_law_frame_here", "_law_outers", "_law_outer", "_law_shape", "_law_wobble", "_law_far", "_law_low", "_law_top"] ["_law_pen_here", "_law_house_here"] (Zf Yj) := ⟨rfl, rfl, rfl, by decide +kernel, rfl, by decide +kernel, by decide +kernel⟩
theorem Nu : Zt ["_law_shape", "_law_x", "_law_y"] ["_law_shape", "_law_x", "_law_y"] (Zf J9) := ⟨rfl, rfl, rfl, by decide +kernel, rfl, by decide +kernel, by decide +kernel⟩
theorem QM : Zt ["_law_shape", "_law_wobble", "_law_spot_here", "_law_places", "_law_way", "_law_here", "_law_x", "_law_first", "_law_cuts"] ["_law_shape", "_law_wobble", "_law_spot_here"] (Zf Qt) := ⟨rfl, rfl, rfl, by decide +kernel, rfl, by decide +kernel, by decide +kernel⟩
theorem Jr : Zt ["_law_lands_here", "_law_found", "_law_turn", "_law_land_here", "_law_outer"] ["_law_lands_here"] (Zf JH) := ⟨rfl, rfl, rfl, by decide +kernel, rfl, by decide +kernel, by decide +kernel⟩
theorem Jd : Zt ["_law_lands_here", "_law_held", "_law_spot_here", "_law_levels_here", "_law_found", "_law_rank", "_law_land_here", "_law_here", "_law_outer", "_law_shape", "_law_wobble"] ["_law_lands_here", "_law_held", "_law_spot_here"] (Zf YA) := ⟨rfl, rfl, rfl, by decide +kernel, rfl, by decide +kernel, by decide +kernel⟩
theorem BK : Zt ["_law_pen_here", "_law_house_here"] ["_law_pen_here"] (Zf Vu) := ⟨rfl, rfl, rfl, by decide +kernel, rfl, by decide +kernel, by decide +kernel⟩
theorem Qu : Zt ["_law_pen_here", "_law_house_here", "_law_way", "_law_rows", "_law_name", "_law_outer", "_law_shape", "_law_wobble"] ["_law_pen_here", "_law_house_here"] (Zf Vy) := ⟨rfl, rfl, rfl, by decide +kernel, rfl, by decide +kernel, by decide +kernel⟩
theorem JJ : Zt ["_law_lands_here", "_law_held", "_law_spot_here", "_law_by_name", "_law_due", "_law_handed", "_law_turn", "_law_found"] ["_law_lands_here", "_law_held", "_law_spot_here"] (Zf J7) := ⟨rfl, rfl, rfl, by decide +kernel, rfl, by decide +kernel, by decide +kernel⟩
theorem Zw : Zt ["_law_pen_here", "_law_many", "_law_step", "_law_names_here", "_law_house_here", "_law_shape", "_law_other", "_law_at", "_law_rows", "_law_k", "_law_lands_here", "_law_spot_here", "_law_held"] ["_law_pen_here"] (Zf Z3) := ⟨rfl, rfl, rfl, by decide +kernel, rfl, by decide +kernel, by decide +kernel⟩
theorem Ve : Zt ["_law_script", "_law_k", "_law_pen_here", "_law_house_here", "_law_lands_here", "_law_kept", "_law_turn", "_law_spot_here", "_law_held"] ["_law_script"] (Zf Gk) := ⟨rfl, rfl, rfl, by decide +kernel, rfl, by decide +kernel, by decide +kernel⟩
theorem N7 : bootBuiltins "abs" = some (.builtin "abs") := by decide +kernel
theorem Zbg : bootBuiltins "all" = some (.builtin "all") := by decide +kernel
theorem Za0 : bootBuiltins "any" = some (.builtin "any") := by decide +kernel
theorem RY : bootBuiltins "bool" = some (.type "bool") := by decide +kernel
theorem EY : bootBuiltins "dict" = some (.type "dict") := by decide +kernel
theorem Y9 : bootBuiltins "int" = some (.type "int") := by decide +kernel
theorem ZV : bootBuiltins "isinstance" = some (.builtin "isinstance") := by decide +kernel
theorem JO : bootBuiltins "len" = some (.builtin "len") := by decide +kernel
theorem YJ : bootBuiltins "list" = some (.type "list") := by decide +kernel
theorem Bk : bootBuiltins "max" = some (.builtin "max") := by decide +kernel
theorem EV : bootBuiltins "min" = some (.builtin "min") := by decide +kernel
theorem D0 : bootBuiltins "repr" = some (.builtin "repr") := by decide +kernel
theorem Ql : bootBuiltins "sorted" = some (.builtin "sorted") := by decide +kernel
theorem N9 : bootBuiltins "str" = some (.type "str") := by decide +kernel
theorem Vf : bootBuiltins "tuple" = some (.type "tuple") := by decide +kernel
set_option genInjectivity false in
structure Tx (K : PySem.W.Frag) (mg : Str → Option Value) where
 JZ : Addr
 JV : FuncData
 Q7 : Own K mg "has_spots" Qs ["box"] JZ JV
 Vr : Addr
 VC : FuncData
 JG : Own K mg "steps_to" QG ["box", "spot"] Vr VC
 Qo : Addr
 Qj : FuncData
 ZR : Own K mg "steps_between" Z0 ["one", "other"] Qo Qj
 Pw : Addr
 SR : FuncData
 Ux : Own K mg "gap" CJ ["one", "other", "way"] Pw SR
 Ki : Addr
 XX : FuncData
 V3 : Own K mg "square" JF ["spot", "r"] Ki XX
 XA : Addr
 Kk : FuncData
 V6 : Own K mg "common" JE ["one", "other"] XA Kk
 YM : Addr
 YD : FuncData
 Vm : Own K mg "cut_out" QO ["one", "other"] YM YD
 J3 : Addr
 Va : FuncData
 Ja : Own K mg "left_over" Qr ["box", "others"] J3 Va
 Dh : Addr
 FI : FuncData
 Bu : Own K mg "side" Xf ["shape", "wobble", "spot"] Dh FI
 Jx : Addr
 Jq : FuncData
 QU : Own K mg "steps_away" Z4 ["pieces", "spot"] Jx Jq
 GA : Addr
 U5 : FuncData
 Xt : Own K mg "level" Vb ["lands", "land"] GA U5
 Kv : Addr
 Kn : FuncData
 VY : Own K mg "looked" JI ["lands", "held", "spot"] Kv Kn
 Jf : Addr
 Jb : FuncData
 QE : Own K mg "outer_first" ZO ["lands"] Jf Jb
 Uk : Addr
 GB : FuncData
 X3 : Own K mg "keeps" Vx ["row", "held", "spot"] Uk GB
 Rn : Addr
 Ri : FuncData
 Gb : Own K mg "_law_pen" Cm ["_law_script", "_law_k"] Rn Ri
 JQ : Addr
 JT : FuncData
 Zj : Own K mg "_law_draw" Xa ["_law_pen_here", "_law_many"] JQ JT
 Ur : Addr
 UD : FuncData
 Kg : Own K mg "_law_names" QY ["_law_pen_here", "_law_many"] Ur UD
 YR : Addr
 Yy : FuncData
 J8 : Own K mg "_law_alike" J2 ["_law_found", "_law_due"] YR Yy
 Xx : Addr
 Ke : FuncData
 Vc : Own K mg "_law_frame" Vw ["_law_pen_here"] Xx Ke
 UH : Addr
 UK : FuncData
 XT : Own K mg "_law_boxes" Vt ["_law_pen_here"] UH UK
 GS : Addr
 GP : FuncData
 JN : Own K mg "_law_laid" Xe ["_law_frame_here", "_law_spot_here", "_law_more"] GS GP
 HF : Addr
 Hd : FuncData
 Bi : Own K mg "_law_spot" Xb ["_law_pen_here", "_law_house_here"] HF Hd
 Bb : Addr
 Bn : FuncData
 JM : Own K mg "_law_land" Yj ["_law_pen_here", "_law_house_here"] Bb Bn
 Gf : Addr
 GH : FuncData
 X1 : Own K mg "_law_has" J9 ["_law_shape", "_law_x", "_law_y"] Gf GH
 XR : Addr
 Kf : FuncData
 V1 : Own K mg "_law_side" Qt ["_law_shape", "_law_wobble", "_law_spot_here"] XR Kf
 Ks : Addr
 XM : FuncData
 V8 : Own K mg "_law_levels" JH ["_law_lands_here"] Ks XM
 f_look : Addr
 Dv : FuncData
 BN : Own K mg "_law_look" YA ["_law_lands_here", "_law_held", "_law_spot_here"] f_look Dv
 UJ : Addr
 UA : FuncData
 KJ : Own K mg "_law_house" Vu ["_law_pen_here"] UJ UA
 Gw : Addr
 Ue : FuncData
 KI : Own K mg "_law_lands" Vy ["_law_pen_here", "_law_house_here"] Gw Ue
 Kc : Addr
 Xs : FuncData
 J6 : Own K mg "_law_right" J7 ["_law_lands_here", "_law_held", "_law_spot_here"] Kc Xs
 Ju : Addr
 Jt : FuncData
 QT : Own K mg "_law_deep_right" Z3 ["_law_pen_here"] Ju Jt
 ZaC : Addr
 Zab : FuncData
 o_law : Own K mg "law" Gk ["_law_script"] ZaC Zab
 ZaJ : mg "abs" = none
 Zet : mg "all" = none
 Zeb : mg "any" = none
 Zar : mg "bool" = none
 OE : mg "dict" = none
 B3 : mg "int" = none
 Z1 : mg "isinstance" = none
 Y0 : mg "len" = none
 WC : mg "list" = none
 HZ : mg "max" = none
 SA : mg "min" = none
 Qw : mg "range" = none
 N5 : mg "repr" = none
 QB : mg "sorted" = none
 Zcl : mg "str" = none
 Yu : mg "tuple" = none
 ZdO : mg "zip" = none
local macro_rules | `(tactic| walk_at "hd") => `(tactic| (subst_vars; (try dsimp only); refine DL.LL fun R hR => ?_))
noncomputable def ab (i : Int) : Int := if i < 0 then -i else i
noncomputable def Qz (x y x' y' : Int) : Int := max (ab (x - x')) (ab (y - y'))
noncomputable def gp (a b a' b' : Int) : Int := max 0 (max (a' - b) (a - b'))
noncomputable def btw (x y X Y x' y' X' Y' : Int) : Int := max (gp x X x' X') (gp y Y y' Y')
structure B4 where
 x : Int
 y : Int
 X : Int
 Y : Int
noncomputable def bD (b : B4) : PyData := .tuple [.tuple [.int b.x, .int b.y], .tuple [.int b.X, .int b.Y]]
noncomputable def Xp (a b : B4) : Int := btw a.x a.y a.X a.Y b.x b.y b.X b.Y
noncomputable def Qv (p : B4) (u v : Int) : Int := btw p.x p.y p.X p.Y u v u v
noncomputable def hasB (b : B4) (u v : Int) : Bool := decide (b.x ≤ u ∧ u ≤ b.X ∧ b.y ≤ v ∧ v ≤ b.Y)
noncomputable def okB (b : B4) : Bool := decide (b.x ≤ b.X) && decide (b.y ≤ b.Y)
noncomputable def Zbk (a b : B4) : B4 := ⟨max a.x b.x, max a.y b.y, min a.X b.X, min a.Y b.Y⟩
noncomputable def CP (a b : B4) : List B4 :=
 let mx := max a.x b.x
 let my := max a.y b.y
 let mX := min a.X b.X
 let mY := min a.Y b.Y
 [⟨a.x, a.y, mx - 1, a.Y⟩, ⟨mX + 1, a.y, a.X, a.Y⟩, ⟨mx, a.y, mX, my - 1⟩, ⟨mx, mY + 1, mX, a.Y⟩]
noncomputable def Y4 (a b : B4) : List B4 := if 0 < Xp a b then [a] else (CP a b).filter okB
noncomputable def Q8 (a : B4) (bs : List B4) : List B4 := bs.foldl (fun ps b => ps.flatMap fun p => Y4 p b) [a]
noncomputable def Jh (u v r : Int) : B4 := ⟨u - r, v - r, u + r, v + r⟩
def onX (x : DV) (P : B4 → Prop) : Prop := match x with | .dat (.tuple [.tuple [.int x, .int y], .tuple [.int X, .int Y]]) => P ⟨x, y, X, Y⟩ | _ => False
theorem Nj (b : B4) (P : B4 → Prop) : onX (.dat (bD b)) P = P b := propext Iff.rfl
theorem L7 (x y X Y : Int) (P : B4 → Prop) : onX (.dat (.tuple [.tuple [.int x, .int y], .tuple [.int X, .int Y]])) P = P ⟨x, y, X, Y⟩ := propext Iff.rfl
theorem Jn {x : DV} {P : B4 → Prop} (h : onX x P) : ∃ b, x = .dat (bD b) ∧ P b := by
 unfold onX at h
 split at h
 ·exact ⟨⟨_, _, _, _⟩, rfl, h⟩
 ·exact h.elim
theorem Nv (b : B4) (M : Mp) (P : List PyData → Prop) : onQ (.dat (bD b)) M P = P [.tuple [.int b.x, .int b.y], .tuple [.int b.X, .int b.Y]] := propext Iff.rfl
theorem NG (b : B4) (P : List PyData → Prop) : onT (.dat (bD b)) P = P [.tuple [.int b.x, .int b.y], .tuple [.int b.X, .int b.Y]] := propext Iff.rfl
def G4 (x : DV) (P : List B4 → Prop) : Prop := ∃ bs, x = .dat (.tuple (bs.map bD)) ∧ P bs
def ZfD (x : DV) (P : List B4 → Prop) : Prop := ∃ bs, x = .dat (.list (bs.map bD)) ∧ P bs
theorem YL {x : DV} {P : List B4 → Prop} (h : G4 x P) : ∃ bs, x = .dat (.tuple (bs.map bD)) ∧ P bs := h
theorem Za5 {a b : B4} (h : bD a = bD b) : a = b := by
 unfold bD at h
 simp only [PyData.tuple.injEq, List.cons.injEq, PyData.int.injEq, and_true] at h
 obtain ⟨⟨h1, h2⟩, h3, h4⟩ := h
 cases a
 cases b
 simp only at h1 h2 h3 h4
 subst h1 h2 h3 h4
 rfl
theorem VE : ∀ {as bs : List B4}, as.map bD = bs.map bD → as = bs
 | [], [], _ => rfl
 | [], _ :: _, h => by simp at h
 | _ :: _, [], h => by simp at h
 | a :: as, b :: bs, h => by
  rw [List.map_cons, List.map_cons, List.cons.injEq] at h
  rw [Za5 h.1, VE h.2]
theorem Sx (bs : List B4) (P : List B4 → Prop) : G4 (.dat (.tuple (bs.map bD))) P = P bs := propext ⟨fun ⟨cs, e, h⟩ => by
 rw [DV.dat.injEq, PyData.tuple.injEq] at e
 rw [VE e]
 exact h, fun h => ⟨bs, rfl, h⟩⟩
theorem Sw (bs : List B4) (P : List B4 → Prop) : ZfD (.dat (.list (bs.map bD))) P = P bs := propext ⟨fun ⟨cs, e, h⟩ => by
 rw [DV.dat.injEq, PyData.list.injEq] at e
 rw [VE e]
 exact h, fun h => ⟨bs, rfl, h⟩⟩
def Shp (bs : List B4) : Prop := 1 ≤ bs.length ∧ bs.length ≤ 6 ∧ ∀ b ∈ bs, okB b = true
noncomputable abbrev anyB (bs : List B4) : Int → Int → Bool := fun x y => bs.any fun b => hasB b x y
def S7 : DSp := fun xs M Φ => on1 xs fun x => onX x fun b => Φ (.dat (.bool (okB b))) M
theorem Sd (xs : List DV) (M : Mp) (Φ : DK) : S7 xs M Φ = (on1 xs fun x => onX x fun b => Φ (.dat (.bool (okB b))) M) := propext Iff.rfl
def R5 : DSp := fun xs M Φ => on3 xs fun x y z => onX x fun a => onX y fun b => onI z fun i => (i = 0 ∨ i = 1) ∧ Φ (.dat (.int (if i = 0 then gp a.x a.X b.x b.X else gp a.y a.Y b.y b.Y))) M
theorem SK (xs : List DV) (M : Mp) (Φ : DK) : R5 xs M Φ = (on3 xs fun x y z => onX x fun a => onX y fun b => onI z fun i => (i = 0 ∨ i = 1) ∧ Φ (.dat (.int (if i = 0 then gp a.x a.X b.x b.X else gp a.y a.Y b.y b.Y))) M) := propext Iff.rfl
def Vk : DSp := fun xs M Φ => on2 xs fun x y => onX x fun a => onX y fun b => Φ (.dat (.int (Xp a b))) M
theorem UE (xs : List DV) (M : Mp) (Φ : DK) : Vk xs M Φ = (on2 xs fun x y => onX x fun a => onX y fun b => Φ (.dat (.int (Xp a b))) M) := propext Iff.rfl
def ZdB : DSp := fun xs M Φ => on2 xs fun x y => onX x fun a => onP y fun u v => Φ (.dat (.int (Qv a u v))) M
theorem Zck (xs : List DV) (M : Mp) (Φ : DK) : ZdB xs M Φ = (on2 xs fun x y => onX x fun a => onP y fun u v => Φ (.dat (.int (Qv a u v))) M) := propext Iff.rfl
def ZbE : DSp := fun xs M Φ => on2 xs fun x y => onX x fun a => onP y fun u v => Φ (.dat (.bool (hasB a u v))) M
def PH : DSp := fun xs M Φ => on2 xs fun x y => onP x fun a b => onP y fun u v => Φ (.dat (.int (Qz a b u v))) M
def XW : DSp := fun xs M Φ => on2 xs fun x y => onP x fun u v => onI y fun r => Φ (.dat (bD (Jh u v r))) M
theorem BZ (xs : List DV) (M : Mp) (Φ : DK) : XW xs M Φ = (on2 xs fun x y => onP x fun u v => onI y fun r => Φ (.dat (bD (Jh u v r))) M) := propext Iff.rfl
def XY : DSp := fun xs M Φ => on2 xs fun x y => onX x fun a => onX y fun b => Φ (.dat (bD (Zbk a b))) M
theorem Ct (xs : List DV) (M : Mp) (Φ : DK) : XY xs M Φ = (on2 xs fun x y => onX x fun a => onX y fun b => Φ (.dat (bD (Zbk a b))) M) := propext Iff.rfl
def Sf : DSp := fun xs M Φ => on2 xs fun x y => onX x fun a => onX y fun b => ∀ p, M p = none → Φ (.own p) (Zv M p (.lst ((Y4 a b).map bD)))
theorem S6 (xs : List DV) (M : Mp) (Φ : DK) : Sf xs M Φ = (on2 xs fun x y => onX x fun a => onX y fun b => ∀ p, M p = none → Φ (.own p) (Zv M p (.lst ((Y4 a b).map bD)))) := propext Iff.rfl
def D9 : DSp := fun xs M Φ => on2 xs fun x y => onX x fun a => G4 y fun bs => bs.length ≤ 6 ∧ Φ (.dat (.list ((Q8 a bs).map bD))) M
theorem Np (xs : List DV) (M : Mp) (Φ : DK) : D9 xs M Φ = (on2 xs fun x y => onX x fun a => G4 y fun bs => bs.length ≤ 6 ∧ Φ (.dat (.list ((Q8 a bs).map bD))) M) := propext Iff.rfl
def ZcX : DSp := fun xs M Φ => on2 xs fun x y => G4 x fun bs => onP y fun u v => bs.length ≤ 6 ∧ Φ (.dat (.bool (anyB bs u v))) M
theorem GC {α : Type} {l : List α} {i : Nat} {q : α} (f : α → Bool) (h : l[i]? = some q) : (l.take (i + 1)).filter f = (l.take i).filter f ++ (if f q = true then [q] else []) := by
 rw [List.take_add_one, h, List.filter_append]
 cases e : f q <;> simp [e]
theorem Xz (a b : B4) : (Y4 a b).length ≤ 4 := by
 unfold Y4
 split
 ·simp
 ·exact Nat.le_trans (List.length_filter_le _ _) (Nat.le_refl 4)
theorem Bh : ∀ (bs ps : List B4), (bs.foldl (fun ps b => ps.flatMap fun p => Y4 p b) ps).length ≤ ps.length * 4 ^ bs.length
 | [], ps => by simp
 | b :: bs, ps => by
  have h1 := V4 (fun p => Y4 p b) 4 ps fun p _ => Xz p b
  have h2 := Bh bs (ps.flatMap fun p => Y4 p b)
  rw [List.foldl_cons, List.length_cons, Nat.pow_succ]
  refine Nat.le_trans h2 (Nat.le_trans (Nat.mul_le_mul_right _ h1) ?_)
  rw [Nat.mul_assoc, Nat.mul_comm 4]
  exact Nat.le_refl _
theorem Fu (a : B4) (bs : List B4) (h : bs.length ≤ 6) : (Q8 a bs).length ≤ 4096 := by
 have h1 := Bh bs [a]
 rw [List.length_singleton, Nat.one_mul] at h1
 have h2 : 4 ^ bs.length ≤ 4 ^ 6 := Nat.pow_le_pow_right (by decide) h
 exact Nat.le_trans h1 (Nat.le_trans h2 (by decide))
theorem CM {a b : B4} {bs : List B4} {i : Nat} (h : bs[i]? = some b) : Q8 a (bs.take (i + 1)) = (Q8 a (bs.take i)).flatMap fun p => Y4 p b := by
 unfold Q8
 rw [List.take_add_one, h, List.foldl_append]
 rfl
def Sub (q p : B4) : Prop := okB q = true ∧ p.x ≤ q.x ∧ q.X ≤ p.X ∧ p.y ≤ q.y ∧ q.Y ≤ p.Y
theorem Sub.trans {a b c : B4} (h : Sub a b) (k : Sub b c) : Sub a c := by
 unfold Sub at *
 exact ⟨h.1, by omega⟩
theorem FA {a b q : B4} (ha : okB a = true) (h : q ∈ Y4 a b) : Sub q a := by
 unfold Y4 at h
 split at h
 ·rw [List.mem_singleton.mp h]
  exact ⟨ha, by omega⟩
 ·rename_i h0
  obtain ⟨h1, h2⟩ := List.mem_filter.mp h
  refine ⟨h2, ?_⟩
  unfold Xp btw gp at h0
  unfold okB at ha h2
  simp only [Bool.and_eq_true, decide_eq_true_eq] at ha h2
  unfold CP at h1
  simp only [List.mem_cons, List.not_mem_nil, or_false] at h1
  rcases h1 with rfl | rfl | rfl | rfl
  all_goals (dsimp only at h2 ⊢; omega)
theorem BQ {a : B4} : ∀ (bs ps : List B4), (∀ p ∈ ps, Sub p a) → ∀ q ∈ bs.foldl (fun ps b => ps.flatMap fun p => Y4 p b) ps, Sub q a
 | [], ps, h, q, hq => h q hq
 | b :: bs, ps, h, q, hq => by
  rw [List.foldl_cons] at hq
  refine BQ bs _ (fun p hp => ?_) q hq
  obtain ⟨p', hp', hc⟩ := List.mem_flatMap.mp hp
  exact (FA (h p' hp').1 hc).trans (h p' hp')
theorem BJ {a q : B4} {bs : List B4} (ha : okB a = true) (h : q ∈ Q8 a bs) : Sub q a :=
 BQ bs [a] (fun p hp => by rw [List.mem_singleton.mp hp]; exact ⟨ha, by omega⟩) q h
section
variable {P : Program} {w : World} {K : PySem.W.Frag} {mg : Str → Option Value} {base : Heap}
theorem HA {a n : Int} : ab a ≤ n ↔ -n ≤ a ∧ a ≤ n := by unfold ab; split <;> omega
theorem QN (a : Int) : (0 ≤ a ∧ ab a = a) ∨ (a < 0 ∧ ab a = -a) := by unfold ab; split <;> omega
theorem Zct (a : Int) : ab (-a) = ab a := by unfold ab; split <;> split <;> omega
theorem OP (a b : Int) : ab (a - b) = ab (b - a) := by rw [← Zct, Int.neg_sub]
theorem Qb {a b x y n : Int} : Qz a b x y ≤ n ↔ (-n ≤ a - x ∧ a - x ≤ n) ∧ (-n ≤ b - y ∧ b - y ≤ n) := by
 unfold Qz
 rw [Int.max_le, HA, HA]
theorem YI (a b x y : Int) : Qz a b x y = Qz x y a b := by
 unfold Qz
 rw [OP a x, OP b y]
theorem NH {a b x y : Int} (h : ¬ (x = a ∧ y = b)) : 1 ≤ Qz a b x y := by
 have h1 := Qb.mp (Int.le_refl (Qz a b x y))
 omega
structure IsD (S : Int → Int → Bool) (u v d : Int) : Prop where
 sg : S u v = decide (0 < d)
 ne : d ≠ 0
 ex : ∃ x y, S x y ≠ S u v ∧ Qz u v x y = ab d
 mn : ∀ x y, S x y ≠ S u v → ab d ≤ Qz u v x y
section
variable {S S' : Int → Int → Bool} {u v d h : Int}
theorem IsD.pos (h : IsD S u v d) (k : S u v = true) : 0 < d := by have := h.sg; rw [k] at this; exact of_decide_eq_true this.symm
theorem IsD.neg (h : IsD S u v d) (k : S u v = false) : d < 0 := by
 have h1 := h.sg
 rw [k] at h1
 have h2 := of_decide_eq_false h1.symm
 have h3 := h.ne
 omega
theorem IsD.eq (h : IsD S u v d) {e : Int} (k : IsD S u v e) : d = e := by
 obtain ⟨x, y, h1, h2⟩ := h.ex
 obtain ⟨x', y', k1, k2⟩ := k.ex
 have a := h.mn x' y' k1
 have b := k.mn x y h1
 cases c : S u v with
 | true =>
  have c1 := h.pos c
  have c2 := k.pos c
  have i1 := QN d
  have i2 := QN e
  omega
 | false =>
  have c1 := h.neg c
  have c2 := k.neg c
  have i1 := QN d
  have i2 := QN e
  omega
noncomputable def cl (f a : Int) : Int := max (0 - f) (min f a)
theorem Bf {f : Int} (hf : 0 ≤ f) (a : Int) : (a < -f ∧ cl f a = -f) ∨ (f < a ∧ cl f a = f) ∨ ((-f ≤ a ∧ a ≤ f) ∧ cl f a = a) := by unfold cl; omega
theorem ZbU {f : Int} (hf : 0 ≤ f) (a : Int) : ab (cl f a) ≤ f := by
 rw [HA]
 have := Bf hf a
 omega
theorem XE {f : Int} (hf : 0 ≤ f) (u x : Int) : ab (u + cl f (x - u) - x) = max 0 (ab (u - x) - f) := by
 have h1 := Bf hf (x - u)
 have h2 := QN (u - x)
 have h3 := QN (u + cl f (x - u) - x)
 omega
theorem EM {f : Int} (hf : 0 ≤ f) (u v x y : Int) : Qz u v (u + cl f (x - u)) (v + cl f (y - v)) ≤ f := by
 rw [Qb]
 have h1 := HA.mp (ZbU hf (x - u))
 have h2 := HA.mp (ZbU hf (y - v))
 omega
noncomputable def sgn (h : Int) : Int := if h < 0 then -1 else 1
theorem Oz (h : Int) : (0 ≤ h ∧ sgn h = 1) ∨ (h < 0 ∧ sgn h = -1) := by unfold sgn; split <;> omega
theorem IsD.near (k : IsD S u v h) {x y : Int} (c : Qz u v x y < ab h) : S x y = S u v := by
 by_cases e : S x y = S u v
 ·exact e
 ·have := k.mn x y e
  omega
theorem Gv {S : Int → Int → Bool} {u v x y : Int} (h : S x y ≠ S u v) : 1 ≤ Qz u v x y := by
 by_cases e : x = u ∧ y = v
 ·rw [e.1, e.2] at h
  exact absurd rfl h
 ·exact NH e
theorem IsD.other (k : IsD S u v h) {x y : Int} (o : S x y ≠ S u v) (c : Qz u v x y = ab h) : IsD S x y (0 - sgn h) := by
 have hn := k.ne
 have g2 := QN h
 have f0 : 0 ≤ ab h - 1 := by omega
 have n1 := k.near (x := u + cl (ab h - 1) (x - u)) (y := v + cl (ab h - 1) (y - v)) (by have := EM f0 u v x y; omega)
 have a0 : ab (0 - sgn h) = 1 := by
  have g3 := QN (0 - sgn h)
  have g4 := Oz h
  omega
 have far : 1 ≤ Qz x y (u + cl (ab h - 1) (x - u)) (v + cl (ab h - 1) (y - v)) := Gv (S := S) (by rw [n1]; exact fun z => o z.symm)
 have near : Qz x y (u + cl (ab h - 1) (x - u)) (v + cl (ab h - 1) (y - v)) ≤ 1 := by
  rw [YI]
  unfold Qz at c ⊢
  rw [XE f0, XE f0]
  omega
 refine ⟨?_, by unfold sgn; split <;> decide, ⟨u + cl (ab h - 1) (x - u), v + cl (ab h - 1) (y - v), by rw [n1]; exact fun z => o z.symm, by rw [a0]; omega⟩, fun x' y' q => by rw [a0]; exact Gv q⟩
 cases c : S u v with
 | true =>
  have := k.pos c
  rw [c] at o
  rw [show sgn h = 1 from if_neg (by omega)]
  cases c' : S x y with
  | true => exact absurd c' o
  | false => rfl
 | false =>
  have := k.neg c
  rw [c] at o
  rw [show sgn h = -1 from if_pos this]
  cases c' : S x y with
  | true => rfl
  | false => exact absurd c' o
theorem IsD.more (k : IsD S u v h) (k' : IsD S' u v d) (hS : ∀ x y, S x y = true → S' x y = true) : h ≤ d := by
 cases c : S u v with
 | true =>
  have c1 := k.pos c
  have c' := hS u v c
  have c2 := k'.pos c'
  obtain ⟨x, y, a, b⟩ := k'.ex
  have a' : S x y ≠ S u v := fun z => a (by rw [c', hS x y (by rw [z, c])])
  have := k.mn x y a'
  have i1 := QN h
  have i2 := QN d
  omega
 | false =>
  have c1 := k.neg c
  cases c' : S' u v with
  | true =>
   have := k'.pos c'
   omega
  | false =>
   have c2 := k'.neg c'
   obtain ⟨x, y, a, b⟩ := k.ex
   have a' : S x y = true := by
    cases z : S x y with
    | true => rfl
    | false => rw [c, z] at a; exact absurd rfl a
   have := k'.mn x y (by rw [hS x y a', c']; decide)
   have i1 := QN h
   have i2 := QN d
   omega
theorem IsD.le (k : IsD S u v d) {x y : Int} (q : S x y ≠ S u v) {n : Int} (hn : Qz u v x y ≤ n) : -n ≤ d ∧ d ≤ n := by
 have := k.mn x y q
 have i1 := QN d
 omega
end
theorem JX {b : B4} : okB b = true ↔ b.x ≤ b.X ∧ b.y ≤ b.Y := by
 unfold okB
 simp only [Bool.and_eq_true, decide_eq_true_eq]
theorem Z2 {b : B4} {u v : Int} : hasB b u v = true ↔ b.x ≤ u ∧ u ≤ b.X ∧ b.y ≤ v ∧ v ≤ b.Y := by
 unfold hasB
 rw [decide_eq_true_eq]
theorem Yc {p : B4} {u v n : Int} (hn : 0 ≤ n) : Qv p u v ≤ n ↔ (u - p.X ≤ n ∧ p.x - u ≤ n) ∧ (v - p.Y ≤ n ∧ p.y - v ≤ n) := by
 unfold Qv btw gp
 omega
theorem X0 (p : B4) (u v : Int) : 0 ≤ Qv p u v := by
 unfold Qv btw gp
 omega
theorem PM (a b x y : Int) : 0 ≤ Qz a b x y := by
 have := Qb.mp (Int.le_refl (Qz a b x y))
 omega
theorem Yd {p : B4} {u v x y : Int} (h : hasB p x y = true) : Qv p u v ≤ Qz u v x y := by
 have h1 := Qb.mp (Int.le_refl (Qz u v x y))
 have h2 := Z2.mp h
 rw [Yc (PM u v x y)]
 omega
theorem Um {p : B4} (h : okB p = true) (u v : Int) : ∃ x y, hasB p x y = true ∧ Qz u v x y = Qv p u v := by
 have h1 := JX.mp h
 have h2 := (Yc (X0 p u v)).mp (Int.le_refl _)
 have h3 : hasB p (max p.x (min p.X u)) (max p.y (min p.Y v)) = true := by
  rw [Z2]
  omega
 refine ⟨_, _, h3, Int.le_antisymm ?_ (Yd h3)⟩
 rw [Qb]
 have h4 := X0 p u v
 omega
theorem Rt {a b : B4} (ha : okB a = true) (x y : Int) : ((Y4 a b).any fun p => hasB p x y) = (hasB a x y && !hasB b x y) := by
 have ok := JX.mp ha
 rw [Bool.eq_iff_iff, Bool.and_eq_true, Bool.not_eq_true', ← Bool.not_eq_true, Z2, Z2, List.any_eq_true]
 unfold Y4
 split
 ·rename_i h0
  unfold Xp btw gp at h0
  constructor
  ·rintro ⟨p, hp, h⟩
   rw [List.mem_singleton.mp hp, Z2] at h
   omega
  ·intro h
   exact ⟨a, List.mem_singleton.mpr rfl, Z2.mpr (by omega)⟩
 ·rename_i h0
  unfold Xp btw gp at h0
  constructor
  ·rintro ⟨p, hp, h⟩
   have hp := (List.mem_filter.mp hp).1
   rw [Z2] at h
   unfold CP at hp
   simp only [List.mem_cons, List.not_mem_nil, or_false] at hp
   rcases hp with rfl | rfl | rfl | rfl
   all_goals (dsimp only at h; omega)
  ·intro h
   have fin : ∀ p : B4, p ∈ CP a b → (p.x ≤ x ∧ x ≤ p.X ∧ p.y ≤ y ∧ y ≤ p.Y) → ∃ p, p ∈ (CP a b).filter okB ∧ hasB p x y = true := fun p hp hh => ⟨p, List.mem_filter.mpr ⟨hp, JX.mpr (by omega)⟩, Z2.mpr hh⟩
   by_cases c1 : x < b.x
   ·exact fin ⟨a.x, a.y, max a.x b.x - 1, a.Y⟩ (by simp [CP]) (by dsimp only; omega)
   ·by_cases c2 : b.X < x
    ·exact fin ⟨min a.X b.X + 1, a.y, a.X, a.Y⟩ (by simp [CP]) (by dsimp only; omega)
    ·by_cases c3 : y < b.y
     ·exact fin ⟨max a.x b.x, a.y, min a.X b.X, max a.y b.y - 1⟩ (by simp [CP]) (by dsimp only; omega)
     ·exact fin ⟨max a.x b.x, min a.Y b.Y + 1, min a.X b.X, a.Y⟩ (by simp [CP]) (by dsimp only; omega)
theorem fold_any (x y : Int) : ∀ (bs ps : List B4), (∀ p ∈ ps, okB p = true) → ((bs.foldl (fun ps b => ps.flatMap fun p => Y4 p b) ps).any fun p => hasB p x y) = ((ps.any fun p => hasB p x y) && !(bs.any fun b => hasB b x y))
 | [], ps, _ => by simp
 | b :: bs, ps, hp => by
  have go : ∀ qs : List B4, (∀ p ∈ qs, okB p = true) → ((qs.flatMap fun p => Y4 p b).any fun p => hasB p x y) = ((qs.any fun p => hasB p x y) && !hasB b x y) := fun qs => by
   induction qs with
   | nil => intro _; simp
   | cons q qs ih =>
    intro hq
    rw [List.flatMap_cons, List.any_append, Rt (hq q List.mem_cons_self), ih fun p h => hq p (List.mem_cons_of_mem _ h), List.any_cons]
    cases hasB q x y <;> cases hasB b x y <;> cases (qs.any fun p => hasB p x y) <;> rfl
  rw [List.foldl_cons, fold_any x y bs _ (fun p h => by
   obtain ⟨q, hq, hc⟩ := List.mem_flatMap.mp h
   exact (FA (hp q hq) hc).1), go ps hp, List.any_cons]
  cases (ps.any fun p => hasB p x y) <;> cases hasB b x y <;> cases (bs.any fun p => hasB p x y) <;> rfl
theorem Yf {a : B4} {bs : List B4} (ha : okB a = true) (_ : ∀ b ∈ bs, okB b = true) (x y : Int) : ((Q8 a bs).any fun p => hasB p x y) = (hasB a x y && !(bs.any fun b => hasB b x y)) := by
 unfold Q8
 rw [fold_any x y bs [a] fun p hp => by rw [List.mem_singleton.mp hp]; exact ha]
 simp
structure Pieces (S : Int → Int → Bool) (u v : Int) (ps : List B4) : Prop where
 ok : ∀ p ∈ ps, okB p = true
 ne : ps ≠ []
 on : ∀ p ∈ ps, ∀ x y, hasB p x y = true → S x y ≠ S u v
 al : ∀ x y, S x y ≠ S u v → ∃ p ∈ ps, Qv p u v ≤ Qz u v x y
theorem Vg {bs : List B4} {x y : Int} (h : anyB bs x y = true) : ∃ b ∈ bs, hasB b x y = true := List.any_eq_true.mp h
theorem S5 {bs : List B4} {b : B4} {x y : Int} (hb : b ∈ bs) (h : hasB b x y = true) : anyB bs x y = true := List.any_eq_true.mpr ⟨b, hb, h⟩
def Frames (fr : B4) (bs : List B4) : Prop := ∀ b ∈ bs, fr.x < b.x ∧ b.X < fr.X ∧ fr.y < b.y ∧ b.Y < fr.Y
theorem EI {bs : List B4} {fr : B4} {u v : Int} (hb : ∀ b ∈ bs, okB b = true) (hf : Frames fr bs) (h : anyB bs u v = true) : Pieces (anyB bs) u v (Q8 fr bs) := by
 obtain ⟨b0, m0, h0⟩ := Vg h
 have f0 := hf b0 m0
 have i0 := Z2.mp h0
 have hok : okB fr = true := JX.mpr (by omega)
 have key : ∀ x y, hasB fr x y = true → anyB bs x y = false → ∃ p ∈ Q8 fr bs, hasB p x y = true := fun x y a b => by
  have e := Yf hok hb x y
  rw [a, show (bs.any fun b => hasB b x y) = false from b] at e
  exact List.any_eq_true.mp e
 have al : ∀ x y, anyB bs x y ≠ anyB bs u v → ∃ p ∈ Q8 fr bs, Qv p u v ≤ Qz u v x y := fun x y q => by
  have q' : anyB bs x y = false := by
   rw [h] at q
   exact Bool.eq_false_iff.mpr q
  have hc := Qb.mp (Int.le_refl (Qz u v x y))
  have c1 : hasB fr (max fr.x (min fr.X x)) (max fr.y (min fr.Y y)) = true := by
   rw [Z2]
   omega
  have c2 : anyB bs (max fr.x (min fr.X x)) (max fr.y (min fr.Y y)) = false := by
   by_cases z : fr.x ≤ x ∧ x ≤ fr.X ∧ fr.y ≤ y ∧ y ≤ fr.Y
   ·rw [show max fr.x (min fr.X x) = x by omega, show max fr.y (min fr.Y y) = y by omega]
    exact q'
   ·refine Bool.eq_false_iff.mpr fun t => ?_
    obtain ⟨b, mb, tb⟩ := Vg t
    have fb := hf b mb
    have ib := Z2.mp tb
    omega
  obtain ⟨p, mp, hp⟩ := key _ _ c1 c2
  refine ⟨p, mp, Int.le_trans (Yd hp) ?_⟩
  rw [Qb]
  omega
 refine ⟨fun p mp => (BJ hok mp).1, fun z => ?_, fun p mp x y hp => ?_, al⟩
 ·obtain ⟨p, mp, _⟩ := al fr.x fr.y (by
   rw [h]
   intro t
   obtain ⟨b, mb, tb⟩ := Vg t
   have fb := hf b mb
   have ib := Z2.mp tb
   omega)
  rw [z] at mp
  cases mp
 ·have e := Yf hok hb x y
  rw [List.any_eq_true.mpr ⟨p, mp, hp⟩] at e
  have e' := (Bool.and_eq_true _ _ ▸ e.symm : _ ∧ _).2
  rw [h]
  intro t
  rw [show (bs.any fun b => hasB b x y) = true from t] at e'
  cases e'
theorem Xl {bs : List B4} {u v : Int} (hb : ∀ b ∈ bs, okB b = true) (h1 : bs ≠ []) (h : anyB bs u v = false) : Pieces (anyB bs) u v bs := by
 refine ⟨hb, h1, fun p mp x y hp => ?_, fun x y q => ?_⟩
 ·rw [h, S5 mp hp]
  decide
 ·rw [h] at q
  obtain ⟨b, mb, tb⟩ := Vg (Bool.of_not_eq_false q)
  exact ⟨b, mb, Yd tb⟩
section
variable {S : Int → Int → Bool} {u v m : Int} {ps : List B4}
theorem Pieces.pos (h : Pieces S u v ps) {p : B4} (mp : p ∈ ps) : 1 ≤ Qv p u v := by
 obtain ⟨x, y, a, b⟩ := Um (h.ok p mp) u v
 rw [← b]
 exact Gv (h.on p mp x y a)
theorem Pieces.depth (h : Pieces S u v ps) (h1 : ∃ p ∈ ps, Qv p u v = m) (h2 : ∀ p ∈ ps, m ≤ Qv p u v) : IsD S u v (if S u v = true then m else -m) := by
 obtain ⟨p, mp, e⟩ := h1
 have hp := h.pos mp
 obtain ⟨x, y, a, b⟩ := Um (h.ok p mp) u v
 have ea : ab (if S u v = true then m else -m) = m := by
  split
  ·have := QN m
   omega
  ·have := QN (-m)
   omega
 refine ⟨?_, ?_, ⟨x, y, h.on p mp x y a, by rw [ea, b, e]⟩, fun x y q => ?_⟩
 ·cases S u v with
  | true => rw [if_pos rfl]; exact (decide_eq_true (by omega)).symm
  | false => rw [if_neg Bool.false_ne_true]; exact (decide_eq_false (by omega)).symm
 ·split <;> omega
 ·obtain ⟨p', mp', q'⟩ := h.al x y q
  have := h2 p' mp'
  rw [ea]
  omega
end
theorem Ek {α : Type} (f : α → Int) : ∀ l : List α, l ≠ [] → ∃ a ∈ l, ∀ b ∈ l, f a ≤ f b
 | [], h => absurd rfl h
 | [a], _ => ⟨a, List.mem_singleton.mpr rfl, fun b hb => by rw [List.mem_singleton.mp hb]; exact Int.le_refl _⟩
 | a :: c :: l, _ => by
  obtain ⟨m, hm, hl⟩ := Ek f (c :: l) (by simp)
  by_cases h : f a ≤ f m
  ·refine ⟨a, List.mem_cons_self, fun b hb => ?_⟩
   rcases List.mem_cons.mp hb with rfl | hb
   ·exact Int.le_refl _
   ·exact Int.le_trans h (hl b hb)
  ·refine ⟨m, List.mem_cons_of_mem _ hm, fun b hb => ?_⟩
   rcases List.mem_cons.mp hb with rfl | hb
   ·omega
   ·exact hl b hb
theorem BX : ∀ bs : List B4, ∃ fr, Frames fr bs
 | [] => ⟨⟨0, 0, 0, 0⟩, fun b hb => (nomatch hb)⟩
 | b :: bs => by
  obtain ⟨fr, h⟩ := BX bs
  refine ⟨⟨min fr.x (b.x - 1), min fr.y (b.y - 1), max fr.X (b.X + 1), max fr.Y (b.Y + 1)⟩, fun c hc => ?_⟩
  dsimp only
  rcases List.mem_cons.mp hc with rfl | hc
  ·omega
  ·have := h c hc
   omega
theorem ZcJ {bs : List B4} (hb : ∀ b ∈ bs, okB b = true) (h1 : bs ≠ []) (u v : Int) : ∃ d, IsD (anyB bs) u v d := by
 have go : ∀ ps, Pieces (anyB bs) u v ps → ∃ d, IsD (anyB bs) u v d := fun ps hp => by
  obtain ⟨p, mp, hm⟩ := Ek (fun p => Qv p u v) ps hp.ne
  exact ⟨_, hp.depth ⟨p, mp, rfl⟩ hm⟩
 cases q : anyB bs u v with
 | true =>
  obtain ⟨fr, hf⟩ := BX bs
  exact go _ (EI hb hf q)
 | false => exact go _ (Xl hb h1 q)
noncomputable def W8 (d wb : Int) : Str := if wb < d then "in" else if d < -wb then "out" else "between"
def U9 : DSp := fun xs M Φ => on2 xs fun x y => G4 x fun ps => onP y fun u v => (ps ≠ [] ∧ ps.length ≤ 4096) ∧ ∀ m, (∃ p ∈ ps, Qv p u v = m) → (∀ p ∈ ps, m ≤ Qv p u v) → Φ (.dat (.int m)) M
theorem Fv (xs : List DV) (M : Mp) (Φ : DK) : U9 xs M Φ = (on2 xs fun x y => G4 x fun ps => onP y fun u v => (ps ≠ [] ∧ ps.length ≤ 4096) ∧ ∀ m, (∃ p ∈ ps, Qv p u v = m) → (∀ p ∈ ps, m ≤ Qv p u v) → Φ (.dat (.int m)) M) := propext Iff.rfl
def De : DSp := fun xs M Φ => on3 xs fun x y z => G4 x fun bs => onI y fun wb => onP z fun u v => (Shp bs ∧ 0 ≤ wb) ∧ ∀ d, IsD (anyB bs) u v d → Φ (.dat (.str (W8 d wb))) M
theorem Mm (xs : List DV) (M : Mp) (Φ : DK) : De xs M Φ = (on3 xs fun x y z => G4 x fun bs => onI y fun wb => onP z fun u v => (Shp bs ∧ 0 ≤ wb) ∧ ∀ d, IsD (anyB bs) u v d → Φ (.dat (.str (W8 d wb))) M) := propext Iff.rfl
theorem ED {bs : List B4} {u v wb d : Int} (hb : ∀ b ∈ bs, okB b = true) (hw : 0 ≤ wb) (hd : IsD (anyB bs) u v d) : Q8 (Jh u v wb) bs = [] ↔ wb < d := by
 have hok : okB (Jh u v wb) = true := JX.mpr (by unfold Jh; dsimp only; omega)
 have sq : ∀ x y, hasB (Jh u v wb) x y = true ↔ Qz u v x y ≤ wb := fun x y => by
  rw [Z2, Qb]
  unfold Jh
  dsimp only
  omega
 have ad := QN d
 constructor
 ·intro z
  have key : ∀ x y, Qz u v x y ≤ wb → anyB bs x y = true := fun x y c => by
   have e := Yf hok hb x y
   rw [z, (sq x y).mpr c] at e
   simpa using e.symm
  have k0 : anyB bs u v = true := key u v (by rw [Qb]; omega)
  have d0 := hd.pos k0
  by_cases c : wb < d
  ·exact c
  ·obtain ⟨x, y, e1, e2⟩ := hd.ex
   exact absurd (by rw [key x y (by omega), k0]) e1
 ·intro z
  cases q : Q8 (Jh u v wb) bs with
  | nil => rfl
  | cons p ps =>
   have mp : p ∈ Q8 (Jh u v wb) bs := by rw [q]; exact List.mem_cons_self
   obtain ⟨x, y, h1, h2⟩ := Um (BJ hok mp).1 u v
   have e := Yf hok hb x y
   rw [List.any_eq_true.mpr ⟨p, mp, h1⟩] at e
   have e' := (Bool.and_eq_true _ _ ▸ e.symm : _ ∧ _)
   have k0 : anyB bs u v = true := by
    rw [hd.sg]
    exact decide_eq_true (by omega)
   have k1 : anyB bs x y = false := by
    have e2 := e'.2
    rwa [Bool.not_eq_true'] at e2
   have := hd.mn x y (by rw [k0, k1]; decide)
   have := (sq x y).mp e'.1
   omega
theorem Nf {bs : List B4} {u v wb d m : Int} (hb : ∀ b ∈ bs, okB b = true) (h1 : bs ≠ []) (hw : 0 ≤ wb) (hd : IsD (anyB bs) u v d) (h2 : ∃ p ∈ bs, Qv p u v = m) (h3 : ∀ p ∈ bs, m ≤ Qv p u v) : wb < m ↔ d < -wb := by
 cases q : anyB bs u v with
 | true =>
  have d0 := hd.pos q
  obtain ⟨b, mb, tb⟩ := Vg q
  have a1 := h3 b mb
  have a2 : Qv b u v ≤ 0 := by
   have i := Z2.mp tb
   rw [Yc (Int.le_refl 0)]
   omega
  omega
 | false =>
  have k := (Xl hb h1 q).depth h2 h3
  rw [q, if_neg Bool.false_ne_true] at k
  have := hd.eq k
  omega
theorem OC : ∀ ps : List B4, PyData.canLayAll0 (ps.map bD) = true
 | [] => by simp [PyData.canLayAll0]
 | p :: ps => by
  rw [List.map_cons]
  simp only [PyData.canLayAll0, Bool.and_eq_true]
  exact ⟨by simp [bD, PyData.canLay0, PyData.canLayAll0], OC ps⟩
theorem P9 (ps : List B4) {P : Bool → Prop} (h : P (decide (ps = []))) : eqD (.list (ps.map bD)) (.list []) P := by
 refine Ow ?_ ?_
 ·unfold HM
  simp only [PyData.canLay0, OC, Bool.true_and]
  simp [PyData.canLayAll0, PyData.depth, PyData.depthAll]
 ·cases ps with
  | nil => simpa [PX, Fe] using h
  | cons p ps => simpa [PX, NY] using h
structure Row where
 n : Str
 o : Str
 sh : PyData
 wb : PyData
noncomputable def Zdk (r : Row) : PyData := .tuple [.str r.n, .str r.o, r.sh, r.wb]
noncomputable def XI (rs : List Row) (s : Str) : Option Str := (rs.find? fun r => decide (r.n = s)).map (·.o)
noncomputable def lev (rs : List Row) : Nat → Str → Option Nat
 | 0, _ => none
 | k + 1, s => match XI rs s with
  | none => none
  | some o => if o = Str.ofString "" then some 1 else (lev rs k o).map (· + 1)
noncomputable def Xv (rs : List Row) (s : Str) : PyData := match lev rs rs.length s with
 | some m => .int m
 | none => .none
def Zfw (x : DV) (P : List Row → Prop) : Prop := ∃ rs, x = .dat (.tuple (rs.map Zdk)) ∧ P rs
noncomputable def prs (rs : List Row) : List (Str × PyData) := rs.map fun r => (r.n, .str r.o)
theorem XO : ∀ (l : List (Str × PyData)) (m : List (Key × PyData)), (l.map (·.1)).Nodup → (∀ p ∈ l, ∀ q ∈ m, q.1 ≠ .inr p.1) → l.foldl (fun m p => Q2 m (.inr p.1) p.2) m = m ++ l.map fun p => ((.inr p.1 : Key), p.2)
 | [], m, _, _ => by simp
 | p :: l, m, hn, hd => by
  rw [List.map_cons, List.nodup_cons] at hn
  have e : Q2 m (.inr p.1) p.2 = m ++ [(.inr p.1, p.2)] := by
   unfold Q2
   rw [if_neg]
   intro z
   obtain ⟨q, hq, e⟩ := List.any_eq_true.mp z
   exact hd p List.mem_cons_self q hq (of_decide_eq_true e)
  rw [List.foldl_cons, e, XO l _ hn.2 fun p' hp' q hq => ?_]
  ·simp
  ·rcases List.mem_append.mp hq with hq | hq
   ·exact hd p' (List.mem_cons_of_mem _ hp') q hq
   ·rw [List.mem_singleton.mp hq]
    intro z
    exact hn.1 (List.mem_map.mpr ⟨p', hp', (Sum.inr.inj z).symm⟩)
theorem Mj {rs : List Row} (h : (rs.map (·.n)).Nodup) : Uc (prs rs) = rs.map fun r => ((.inr r.n : Key), PyData.str r.o) := by
 unfold Uc
 rw [XO _ _ (by unfold prs; rw [List.map_map]; exact h) fun p _ q hq => by cases hq]
 unfold prs
 rw [List.nil_append, List.map_map]
 rfl
theorem BB (rs : List Row) (s : Str) : Qp (rs.map fun r => ((.inr r.n : Key), PyData.str r.o)) (.inr s) = (XI rs s).map PyData.str := by
 unfold Qp XI
 induction rs with
 | nil => rfl
 | cons r rs ih =>
  rw [List.map_cons]
  by_cases e : r.n = s
  ·rw [List.find?_cons_of_pos (by simpa using e), List.find?_cons_of_pos (by simpa using e)]
   rfl
  ·rw [List.find?_cons_of_neg (by simpa using e), List.find?_cons_of_neg (by simpa using e)]
   exact ih
def Ui : DSp := fun xs M Φ => on2 xs fun x y => Zfw x fun rs => onS y fun s => (rs.length ≤ 60 ∧ (rs.map (·.n)).Nodup) ∧ Φ (.dat (Xv rs s)) M
theorem Dk (xs : List DV) (M : Mp) (Φ : DK) : Ui xs M Φ = (on2 xs fun x y => Zfw x fun rs => onS y fun s => (rs.length ≤ 60 ∧ (rs.map (·.n)).Nodup) ∧ Φ (.dat (Xv rs s)) M) := propext Iff.rfl
inductive Lv (rs : List Row) : Str → Nat → Prop
 | one {s : Str} : XI rs s = some (Str.ofString "") → Lv rs s 1
 | up {s o : Str} {m : Nat} : XI rs s = some o → o ≠ Str.ofString "" → Lv rs o m → Lv rs s (m + 1)
theorem Lv.pos {rs : List Row} {s : Str} {m : Nat} (h : Lv rs s m) : 1 ≤ m := by cases h <;> omega
theorem Lv.uniq {rs : List Row} {s : Str} {m : Nat} (h : Lv rs s m) : ∀ {k : Nat}, Lv rs s k → m = k := by
 induction h with
 | one e =>
  intro k h2
  cases h2 with
  | one _ => rfl
  | up e2 ne _ => rw [e] at e2; exact absurd (Option.some.inj e2).symm ne
 | up e ne _ ih =>
  intro k h2
  cases h2 with
  | one e2 => rw [e] at e2; exact absurd (Option.some.inj e2) ne
  | up e2 _ h3 =>
   rw [e] at e2
   cases e2
   rw [ih h3]
theorem DR {rs : List Row} : ∀ {k : Nat} {s : Str} {m : Nat}, lev rs k s = some m → Lv rs s m ∧ m ≤ k
 | 0, _, _, h => by simp [lev] at h
 | k + 1, s, m, h => by
  unfold lev at h
  cases q : XI rs s with
  | none => rw [q] at h; cases h
  | some o =>
   rw [q] at h
   dsimp only at h
   by_cases z : o = Str.ofString ""
   ·rw [if_pos z] at h
    cases h
    exact ⟨.one (by rw [q, z]), by omega⟩
   ·rw [if_neg z] at h
    cases q2 : lev rs k o with
    | none => rw [q2] at h; cases h
    | some j =>
     rw [q2] at h
     cases h
     obtain ⟨a, b⟩ := DR q2
     exact ⟨.up q z a, Nat.succ_le_succ b⟩
theorem O0 {rs : List Row} {s : Str} {m : Nat} (h : Lv rs s m) : ∀ {k : Nat}, m ≤ k → lev rs k s = some m := by
 induction h with
 | one e =>
  intro k hk
  obtain ⟨j, rfl⟩ : ∃ j, k = j + 1 := ⟨k - 1, by omega⟩
  unfold lev
  rw [e]
  dsimp only
  rw [if_pos rfl]
 | up e ne _ ih =>
  intro k hk
  obtain ⟨j, rfl⟩ : ∃ j, k = j + 1 := ⟨k - 1, by omega⟩
  unfold lev
  rw [e]
  dsimp only
  rw [if_neg ne, ih (by omega)]
  rfl
theorem Gi {rs : List Row} (h : (rs.map (·.n)).Nodup) : ∀ {r : Row}, r ∈ rs → XI rs r.n = some r.o := by
 induction rs with
 | nil => intro r hr; cases hr
 | cons a rs ih =>
  intro r hr
  rw [List.map_cons, List.nodup_cons] at h
  unfold XI
  rcases List.mem_cons.mp hr with rfl | hr
  ·rw [List.find?_cons_of_pos (by simp)]
   rfl
  ·have ne : a.n ≠ r.n := fun e => h.1 (by rw [e]; exact List.mem_map_of_mem hr)
   rw [List.find?_cons_of_neg (by simpa using ne)]
   exact ih h.2 hr
theorem Vd {rs : List Row} {s o : Str} (h : XI rs s = some o) : ∃ r ∈ rs, r.n = s ∧ r.o = o := by
 unfold XI at h
 cases q : rs.find? fun r => decide (r.n = s) with
 | none => rw [q] at h; cases h
 | some r =>
  rw [q] at h
  cases h
  exact ⟨r, List.mem_of_find?_eq_some q, by simpa using List.find?_some q, rfl⟩
theorem Lv.mem {rs : List Row} {s : Str} {m : Nat} (h : Lv rs s m) : ∃ r ∈ rs, r.n = s := by
 cases h with
 | one e => obtain ⟨r, hr, e, _⟩ := Vd e; exact ⟨r, hr, e⟩
 | up e _ _ => obtain ⟨r, hr, e, _⟩ := Vd e; exact ⟨r, hr, e⟩
theorem WH {α : Type} [DecidableEq α] : ∀ {l l' : List α}, l.Nodup → (∀ a ∈ l, a ∈ l') → l.length ≤ l'.length
 | [], _, _, _ => Nat.zero_le _
 | a :: l, l', h, hs => by
  rw [List.nodup_cons] at h
  have ha := hs a List.mem_cons_self
  have := WH (l := l) (l' := l'.erase a) h.2 fun b hb => (List.mem_erase_of_ne (fun e => h.1 (by rw [← e]; exact hb))).mpr (hs b (List.mem_cons_of_mem _ hb))
  rw [List.length_erase_of_mem ha] at this
  have : 0 < l'.length := List.length_pos_of_mem ha
  rw [List.length_cons]
  omega
structure Tb (rs : List Row) (ps : List (Key × PyData)) : Prop where
 nd : (ps.map (·.1)).Nodup
 ok : ∀ k d, (k, d) ∈ ps → ∃ (s : Str) (m : Nat), k = .inr s ∧ d = .int m ∧ s ∈ rs.map (·.n) ∧ Lv rs s m ∧ m ≤ ps.length
theorem Tb.len {rs : List Row} {ps : List (Key × PyData)} (h : Tb rs ps) : ps.length ≤ rs.length := by
 have := WH (l := ps.map (·.1)) (l' := rs.map fun r => (Sum.inr r.n : Key)) h.nd fun k hk => by
  obtain ⟨p, hp, rfl⟩ := List.mem_map.mp hk
  obtain ⟨s, m, e, _, hs, _⟩ := h.ok p.1 p.2 hp
  obtain ⟨r, hr, rfl⟩ := List.mem_map.mp hs
  rw [e]
  exact List.mem_map.mpr ⟨r, hr, rfl⟩
 simpa using this
theorem Mr {ps : List (Key × PyData)} {k : Key} {d : PyData} (h : Qp ps k = some d) : (k, d) ∈ ps := by
 unfold Qp at h
 cases q : ps.find? fun kv => decide (kv.1 = k) with
 | none => rw [q] at h; cases h
 | some p =>
  rw [q] at h
  cases h
  have e : p.1 = k := by simpa using List.find?_some q
  rw [← e]
  exact List.mem_of_find?_eq_some q
theorem DH {ps : List (Key × PyData)} {k : Key} : (Qp ps k).isSome = ps.any fun kv => decide (kv.1 = k) := by
 unfold Qp
 rw [Option.isSome_map, Bool.eq_iff_iff, List.find?_isSome, List.any_eq_true]
def Has (ps : List (Key × PyData)) (s : Str) : Prop := ∃ p ∈ ps, p.1 = .inr s
theorem Has.put {ps : List (Key × PyData)} {s : Str} {k : Key} {d : PyData} (h : Has ps s) : Has (Q2 ps k d) s := by
 obtain ⟨p, hp, e⟩ := h
 unfold Q2
 split
 ·by_cases z : p.1 = k
  ·exact ⟨(p.1, d), List.mem_map.mpr ⟨p, hp, by rw [if_pos z]⟩, e⟩
  ·exact ⟨p, List.mem_map.mpr ⟨p, hp, by rw [if_neg z]⟩, e⟩
 ·exact ⟨p, List.mem_append_left _ hp, e⟩
theorem Has.new {ps : List (Key × PyData)} {s : Str} {d : PyData} : Has (Q2 ps (.inr s) d) s := by
 unfold Q2
 split
 ·rename_i h
  obtain ⟨p, hp, e⟩ := List.any_eq_true.mp h
  have e : p.1 = .inr s := of_decide_eq_true e
  exact ⟨(p.1, d), List.mem_map.mpr ⟨p, hp, by rw [if_pos e]⟩, e⟩
 ·exact ⟨_, List.mem_append_right _ (List.mem_singleton.mpr rfl), rfl⟩
theorem D7 {ps : List (Key × PyData)} {s : Str} : Has ps s ↔ (Qp ps (.inr s)).isSome = true := by
 rw [DH, List.any_eq_true]
 exact ⟨fun ⟨p, hp, e⟩ => ⟨p, hp, decide_eq_true e⟩, fun ⟨p, hp, e⟩ => ⟨p, hp, of_decide_eq_true e⟩⟩
theorem Tb.val {rs : List Row} {ps : List (Key × PyData)} (h : Tb rs ps) {s : Str} {d : PyData} (e : Qp ps (.inr s) = some d) : ∃ m : Nat, d = .int m ∧ Lv rs s m ∧ m ≤ ps.length := by
 obtain ⟨t, m, e1, e2, _, e3, e4⟩ := h.ok _ _ (Mr e)
 cases e1
 exact ⟨m, e2, e3, e4⟩
theorem Tb.put {rs : List Row} {ps : List (Key × PyData)} (h : Tb rs ps) {s : Str} {m : Nat} (hs : s ∈ rs.map (·.n)) (hl : Lv rs s m) (hm : m ≤ ps.length + 1) : Tb rs (Q2 ps (.inr s) (.int m)) := by
 by_cases q : (ps.any fun kv => decide (kv.1 = .inr s)) = true
 ·obtain ⟨p, hp, e⟩ := List.any_eq_true.mp q
  have e : p.1 = .inr s := of_decide_eq_true e
  obtain ⟨t, j, e1, e2, _, e3, e4⟩ := h.ok p.1 p.2 hp
  rw [e] at e1
  cases e1
  have ej := hl.uniq e3
  have keys : (ps.map fun kv => if kv.1 = (.inr s : Key) then (kv.1, PyData.int m) else kv).map (·.1) = ps.map (·.1) := by
   rw [List.map_map]
   refine List.map_congr_left fun kv _ => ?_
   show (if kv.1 = (.inr s : Key) then (kv.1, PyData.int m) else kv).1 = kv.1
   split <;> rfl
  unfold Q2
  rw [if_pos q]
  refine ⟨by rw [keys]; exact h.nd, fun k d hk => ?_⟩
  obtain ⟨kv, hkv, ek⟩ := List.mem_map.mp hk
  rw [List.length_map]
  by_cases z : kv.1 = .inr s
  ·rw [if_pos z] at ek
   cases ek
   exact ⟨s, m, z, rfl, hs, hl, by omega⟩
  ·rw [if_neg z] at ek
   rw [ek] at hkv
   exact h.ok k d hkv
 ·unfold Q2
  rw [if_neg q]
  refine ⟨?_, fun k d hk => ?_⟩
  ·rw [List.map_append, List.nodup_append]
   refine ⟨h.nd, by simp, fun a ha b hb => ?_⟩
   intro e
   rw [List.map_cons, List.map_nil, List.mem_singleton] at hb
   obtain ⟨p, hp, e2⟩ := List.mem_map.mp ha
   exact q (List.any_eq_true.mpr ⟨p, hp, decide_eq_true (e2.trans (e.trans hb))⟩)
  ·rw [List.length_append, List.length_singleton]
   rcases List.mem_append.mp hk with hk | hk
   ·obtain ⟨t, j, e1, e2, e3, e4, e5⟩ := h.ok k d hk
    exact ⟨t, j, e1, e2, e3, e4, by omega⟩
   ·have e := List.mem_singleton.mp hk
    cases e
    exact ⟨s, m, rfl, rfl, hs, hl, hm⟩
def Full (rs : List Row) (ps : List (Key × PyData)) (r : Nat) : Prop := ∀ s m, Lv rs s m → m ≤ r → Has ps s
theorem Ya {α β : Type} {f : α → β} {ds es : List β} (p : ds.Perm es) : ∀ l : List α, es = l.map f → ∃ l' : List α, ds = l'.map f ∧ l'.Perm l := by
 induction p with
 | nil =>
  intro l e
  cases l with
  | nil => exact ⟨[], rfl, .nil⟩
  | cons _ _ => cases e
 | cons x p ih =>
  intro l e
  cases l with
  | nil => cases e
  | cons a l =>
   rw [List.map_cons, List.cons.injEq] at e
   obtain ⟨l', e1, p1⟩ := ih l e.2
   exact ⟨a :: l', by rw [List.map_cons, e.1, e1], p1.cons a⟩
 | swap x y l0 =>
  intro l e
  match l, e with
  | [], e => cases e
  | [_], e => simp at e
  | a :: b :: t, e =>
   rw [List.map_cons, List.map_cons, List.cons.injEq, List.cons.injEq] at e
   exact ⟨b :: a :: t, by rw [List.map_cons, List.map_cons, e.1, e.2.1, e.2.2], .swap a b t⟩
 | trans p1 p2 ih1 ih2 =>
  intro l e
  obtain ⟨l2, e2, q2⟩ := ih2 l e
  obtain ⟨l1, e1, q1⟩ := ih1 l2 e2
  exact ⟨l1, e1, q1.trans q2⟩
open Classical in
noncomputable def Wq (bs : List B4) (wb u v : Int) : Str := if (∀ x y, Qz u v x y ≤ wb → anyB bs x y = true) then Str.ofString "in" else if (∀ x y, Qz u v x y ≤ wb → anyB bs x y = false) then Str.ofString "out" else Str.ofString "between"
theorem P8 {bs : List B4} {wb u v d : Int} (hw : 0 ≤ wb) (hd : IsD (anyB bs) u v d) : W8 d wb = Wq bs wb u v := by
 have ad := QN d
 have self : Qz u v u v ≤ wb := Qb.mpr (by omega)
 obtain ⟨x, y, e1, e2⟩ := hd.ex
 unfold W8 Wq
 by_cases h1 : wb < d
 ·have s : anyB bs u v = true := by rw [hd.sg]; exact decide_eq_true (by omega)
  have a : ∀ x y, Qz u v x y ≤ wb → anyB bs x y = true := fun x y hc => by
   cases q : anyB bs x y with
   | true => rfl
   | false =>
    have := hd.mn x y (by rw [q, s]; exact Bool.false_ne_true)
    omega
  rw [if_pos h1, if_pos a]
 ·have n1 : ¬ ∀ x y, Qz u v x y ≤ wb → anyB bs x y = true := fun k => by
   have s := k u v self
   have d0 := hd.pos s
   have := k x y (by omega)
   rw [s] at e1
   exact e1 this
  rw [if_neg h1, if_neg n1]
  by_cases h2 : d < -wb
  ·have s : anyB bs u v = false := by rw [hd.sg]; exact decide_eq_false (by omega)
   have a : ∀ x y, Qz u v x y ≤ wb → anyB bs x y = false := fun x y hc => by
    cases q : anyB bs x y with
    | false => rfl
    | true =>
     have := hd.mn x y (by rw [q, s]; exact (Bool.false_ne_true ·.symm))
     omega
   rw [if_pos h2, if_pos a]
  ·have n2 : ¬ ∀ x y, Qz u v x y ≤ wb → anyB bs x y = false := fun k => by
    have s := k u v self
    rw [hd.sg] at s
    have d0 := of_decide_eq_false s
    have := k x y (by omega)
    rw [k u v self] at e1
    exact e1 this
   rw [if_neg h2, if_neg n2]
structure Ld where
 n : Str
 o : Str
 bs : List B4
 wb : Int
noncomputable def ldR (l : Ld) : Row := ⟨l.n, l.o, .tuple (l.bs.map bD), .int l.wb⟩
noncomputable def ldD (l : Ld) : PyData := .tuple [.str l.n, .str l.o, .tuple (l.bs.map bD), .int l.wb]
theorem OH (l : Ld) : ldD l = .tuple [.str l.n, .str l.o, .tuple (l.bs.map bD), .int l.wb] := rfl
def Zbu (l : Ld) : Prop := Shp l.bs ∧ 0 ≤ l.wb
noncomputable def Ws (held : List Str) (u v : Int) (l : Ld) : Bool := decide (Wq l.bs l.wb u v = Str.ofString "in") || (decide (Wq l.bs l.wb u v = Str.ofString "between") && decide (l.n ∈ held))
def MU (x : DV) (P : List Str → Prop) : Prop := ∃ ss, x = .dat (.list (ss.map PyData.str)) ∧ P ss
def Zfe (x : DV) (P : Ld → Prop) : Prop := ∃ l, x = .dat (ldD l) ∧ P l
def BY (x : DV) (P : List Ld → Prop) : Prop := ∃ ls : List Ld, x = .dat (.tuple (ls.map ldD)) ∧ P ls
def YX (ls : List Ld) : Prop := ls.length ≤ 24 ∧ (∀ l ∈ ls, Zbu l) ∧ ls.Pairwise fun a b => a.n.cps.toList < b.n.cps.toList
theorem YX.nodup {ls : List Ld} (h : YX ls) : (ls.map (·.n)).Nodup := by
 rw [List.nodup_iff_pairwise_ne, List.pairwise_map]
 exact h.2.2.imp fun hab e => absurd hab (by rw [e]; exact List.lt_irrefl _)
theorem YX.NX {ls : List Ld} (h : YX ls) : ((ls.map ldR).map (·.n)).Nodup := by
 rw [List.map_map]
 exact h.nodup
theorem YX.inj {ls : List Ld} (h : YX ls) {a b : Ld} (ha : a ∈ ls) (hb : b ∈ ls) (e : a.n = b.n) : a = b := by
 obtain ⟨i, hi, rfl⟩ := List.getElem_of_mem ha
 obtain ⟨j, hj, rfl⟩ := List.getElem_of_mem hb
 have hp := List.pairwise_iff_getElem.mp h.2.2
 rcases Nat.lt_trichotomy i j with q | rfl | q
 ·have := hp i j hi hj q
  rw [e] at this
  exact absurd this (List.lt_irrefl _)
 ·rfl
 ·have := hp j i hj hi q
  rw [e] at this
  exact absurd this (List.lt_irrefl _)
noncomputable def lvl (ls : List Ld) (l : Ld) : Option Nat := lev (ls.map ldR) (ls.map ldR).length l.n
noncomputable def Ba (ls : List Ld) (l : Ld) : Bool := (lvl ls l).isSome
noncomputable def lvN (ls : List Ld) (l : Ld) : Int := ((lvl ls l).getD 0 : Nat)
def leL (ls : List Ld) (a b : Ld) : Prop := ¬ (lvN ls b < lvN ls a ∨ lvN ls b = lvN ls a ∧ b.n.cps.toList < a.n.cps.toList)
def U6 (ls ls' : List Ld) : Prop := ls'.Perm (ls.filter (Ba ls)) ∧ ls'.Pairwise (leL ls)
theorem Km {s : Str} {ss : List Str} (h : ∀ t ∈ s :: ss, (PyData.str t).canLay0 = true) : okIn (.str s) (ss.map PyData.str) = true ∧ ((ss.map PyData.str).any fun e => PyData.eqv e (.str s)) = decide (s ∈ ss) := by
 have lay : ∀ l : List Str, (∀ t ∈ l, (PyData.str t).canLay0 = true) → PyData.canLayAll0 (l.map PyData.str) = true := fun l => by
  induction l with
  | nil => intro _; simp [PyData.canLayAll0]
  | cons x l ih => intro h; rw [List.map_cons, PyData.canLayAll0, ih fun t ht => h t (.tail _ ht), h x (.head _)]; rfl
 constructor
 ·unfold okIn
  rw [lay ss fun t ht => h t (.tail _ ht), h s (.head _)]
  simp [PyData.depth]
 ·rw [Bool.eq_iff_iff, List.any_map, List.any_eq_true, decide_eq_true_eq]
  constructor
  ·rintro ⟨t, ht, e⟩
   have e : PyData.eqv (.str t) (.str s) = true := e
   rw [Tp, decide_eq_true_eq] at e
   rw [← e]
   exact ht
  ·intro ht
   exact ⟨s, ht, by show PyData.eqv (.str s) (.str s) = true; rw [Tp]; exact decide_eq_true rfl⟩
theorem X6 : ∀ {l : List Str}, sortedS l = true → l.Pairwise fun a b => ¬ b.cps.toList < a.cps.toList
 | [], _ => .nil
 | [a], _ => List.pairwise_singleton ..
 | a :: b :: l, h => by
  have h : (!ltCps b.cps.toList a.cps.toList && risingS b l) = true := h
  rw [Bool.and_eq_true, ltCps_eq, Bool.not_eq_true'] at h
  have ih := X6 (l := b :: l) h.2
  refine .cons (fun c hc => ?_) ih
  have h1 := of_decide_eq_false h.1
  rcases List.mem_cons.mp hc with rfl | hc
  ·exact h1
  ·exact List.le_trans h1 (List.rel_of_pairwise_cons ih hc)
theorem Gx {a b : Str} (h : a.cps.toList = b.cps.toList) : a = b := by
 cases a; cases b
 exact congrArg _ (Array.ext' h)
theorem U6.mem {ls ls' : List Ld} (h : U6 ls ls') {l : Ld} (hl : l ∈ ls') : l ∈ ls := (List.mem_filter.mp (h.1.mem_iff.mp hl)).1
theorem U6.len {ls ls' : List Ld} (h : U6 ls ls') : ls'.length ≤ ls.length := by
 rw [h.1.length_eq]
 exact List.length_filter_le _ _
theorem U6.uniq {ls a b : List Ld} (ho : YX ls) (ha : U6 ls a) (hb : U6 ls b) : a = b := by
 refine List.Perm.eq_of_pairwise (le := leL ls) (fun x y hx hy h1 h2 => ?_) ha.2 hb.2 (ha.1.trans hb.1.symm)
 have e1 : ¬ lvN ls y < lvN ls x := fun z => h1 (.inl z)
 have e2 : ¬ lvN ls x < lvN ls y := fun z => h2 (.inl z)
 have e3 : lvN ls x = lvN ls y := by omega
 exact ho.inj (ha.mem hx) (hb.mem hy) (Gx (List.le_antisymm (fun z => h1 (.inr ⟨e3.symm, z⟩)) fun z => h2 (.inr ⟨e3, z⟩)))
theorem Cb {a b : List Str} (h : a.Perm b) (ha : sortedS a = true) (hb : sortedS b = true) : a = b :=
 List.Perm.eq_of_pairwise (le := fun a b : Str => ¬ b.cps.toList < a.cps.toList) (fun _ _ _ _ h1 h2 => Gx (List.le_antisymm h1 h2)) (X6 ha) (X6 hb) h
noncomputable def Yi (ss : List Str) (u v : Int) (told : List Str) (l : Ld) : List Str := if ((decide (l.o = Str.ofString "") || decide (l.o ∈ told)) && Ws ss u v l) = true then told ++ [l.n] else told
noncomputable def QR (ss : List Str) (u v : Int) (ls : List Ld) : List Str := ls.foldl (Yi ss u v) []
theorem HK (ss : List Str) (u v : Int) (told : List Str) (l : Ld) : (Yi ss u v told l).length ≤ told.length + 1 := by
 unfold Yi
 split
 ·rw [List.length_append, List.length_singleton]
  exact Nat.le_refl _
 ·omega
theorem WU (ss : List Str) (u v : Int) : ∀ (ls : List Ld) (told : List Str), (ls.foldl (Yi ss u v) told).length ≤ told.length + ls.length
 | [], told => Nat.le_refl _
 | l :: ls, told => by
  have := WU ss u v ls (Yi ss u v told l)
  have := HK ss u v told l
  rw [List.foldl_cons, List.length_cons]
  omega
theorem Jz (ss : List Str) (u v : Int) (ls : List Ld) : (QR ss u v ls).length ≤ ls.length := by
 have := WU ss u v ls []
 simpa [QR] using this
theorem Wg (ss : List Str) (u v : Int) {P : Str → Prop} : ∀ (ls : List Ld) (told : List Str), (∀ s ∈ told, P s) → (∀ l ∈ ls, P l.n) → ∀ s ∈ ls.foldl (Yi ss u v) told, P s
 | [], _, h, _ => h
 | l :: ls, told, h, k => by
  rw [List.foldl_cons]
  refine Wg ss u v ls _ (fun s hs => ?_) fun l' hl => k l' (.tail _ hl)
  unfold Yi at hs
  split at hs
  ·rcases List.mem_append.mp hs with hs | hs
   ·exact h s hs
   ·rw [List.mem_singleton.mp hs]
    exact k l (.head _)
  ·exact h s hs
theorem K2 {ss : List Str} {u v : Int} {P : Str → Prop} {ls : List Ld} (k : ∀ l ∈ ls, P l.n) : ∀ s ∈ QR ss u v ls, P s := Wg ss u v ls [] (fun s hs => (nomatch hs)) k
theorem VA (ss : List Str) (u v : Int) {ls : List Ld} {i : Nat} {l : Ld} (h : ls[i]? = some l) : QR ss u v (ls.take (i + 1)) = Yi ss u v (QR ss u v (ls.take i)) l := by
 have e : ls.take (i + 1) = ls.take i ++ [l] := by rw [List.take_succ, h]; rfl
 unfold QR
 rw [e, List.foldl_append]
 rfl
def Xj (s : Str) : Prop := (PyData.str s).canLay0 = true
def Pk (ls : List Ld) : Prop := ∀ l ∈ ls, Xj l.n ∧ Xj l.o
def UU : DSp := fun xs M Φ => on3 xs fun x y z => Zfe x fun l => MU y fun ss => onP z fun u v => (Zbu l ∧ Xj l.n ∧ ∀ s ∈ ss, Xj s) ∧ Φ (.dat (.bool (Ws ss u v l))) M
theorem Ha (xs : List DV) (M : Mp) (Φ : DK) : UU xs M Φ = (on3 xs fun x y z => Zfe x fun l => MU y fun ss => onP z fun u v => (Zbu l ∧ Xj l.n ∧ ∀ s ∈ ss, Xj s) ∧ Φ (.dat (.bool (Ws ss u v l))) M) := propext Iff.rfl
def UZ : DSp := fun xs M Φ => on1 xs fun x => BY x fun ls => YX ls ∧ ∀ ls', U6 ls ls' → Φ (.dat (.list (ls'.map ldD))) M
theorem C4 (xs : List DV) (M : Mp) (Φ : DK) : UZ xs M Φ = (on1 xs fun x => BY x fun ls => YX ls ∧ ∀ ls', U6 ls ls' → Φ (.dat (.list (ls'.map ldD))) M) := propext Iff.rfl
def X7 : DSp := fun xs M Φ => on3 xs fun x y z => BY x fun ls => MU y fun ss => onP z fun u v => (YX ls ∧ Pk ls ∧ ∀ s ∈ ss, Xj s) ∧ ∀ ls' ns, U6 ls ls' → ns.Perm (QR ss u v ls') → sortedS ns = true → ∀ q, M q = none → Φ (.own q) (Zv M q (.lst (ns.map PyData.str)))
theorem Cw (xs : List DV) (M : Mp) (Φ : DK) : X7 xs M Φ = (on3 xs fun x y z => BY x fun ls => MU y fun ss => onP z fun u v => (YX ls ∧ Pk ls ∧ ∀ s ∈ ss, Xj s) ∧ ∀ ls' ns, U6 ls ls' → ns.Perm (QR ss u v ls') → sortedS ns = true → ∀ q, M q = none → Φ (.own q) (Zv M q (.lst (ns.map PyData.str)))) := propext Iff.rfl
noncomputable def pr1 (ls : List Ld) (l : Ld) : PyData := .tuple [.int (lvN ls l), ldD l]
theorem RI {ls : List Ld} {ds : List PyData} (hp : ds.Perm ((ls.filter (Ba ls)).map (pr1 ls))) (hs : ds.Pairwise ZeB) : ∃ ls', ds = ls'.map (pr1 ls) ∧ U6 ls ls' := by
 obtain ⟨ls', rfl, p⟩ := Ya hp _ rfl
 refine ⟨ls', rfl, p, ?_⟩
 rw [List.pairwise_map] at hs
 exact hs.imp fun {a b} hab => hab (lvN ls a, a.n) (lvN ls b, b.n) rfl rfl
theorem KW (ls : List Ld) (l : Ld) : (Ba ls l = true ∧ Xv (ls.map ldR) l.n = .int (lvN ls l)) ∨ (Ba ls l = false ∧ Xv (ls.map ldR) l.n = .none) := by
 unfold Ba lvN lvl Xv
 cases lev (ls.map ldR) (ls.map ldR).length l.n with
 | none => exact .inr ⟨rfl, rfl⟩
 | some m => exact .inl ⟨rfl, rfl⟩
theorem ZcH {Φ : DK} {M : Mp} {p q : Addr} {a b : OO} (hp : M p = none) (hq : Zv M p a q = none) (h : ∀ q, M q = none → Φ (.own q) (Zv M q b)) : gc Φ (.own q) (Zv (Zv M p a) q b) := by
 have ne : q ≠ p := fun e => by
  rw [e, Zn] at hq
  cases hq
 have hm : M q = none := by
  unfold Zv at hq
  rw [if_neg ne] at hq
  exact hq
 refine ⟨[p], ?_⟩
 have e : [p].foldl J5 (Zv (Zv M p a) q b) = Zv M q b := by
  funext z
  show J5 (Zv (Zv M p a) q b) p z = _
  unfold J5 Zv
  by_cases h1 : z = p
  ·rw [if_pos h1, if_neg (by rw [h1]; exact ne.symm), h1, hp]
  ·rw [if_neg h1, if_neg h1]
 rw [e]
 exact h q hm
theorem ZaE {a b o : Bool} {A B : Prop} (ho : o = true) (hA : (a || b) = true → A) (hB : (a || b) = false → B) : if a = true then A else o = true ∧ if b = true then A else B := by
 subst ho
 cases a <;> cases b <;> simp only [Bool.false_eq_true, if_true, if_false, true_and] <;> first | exact hA rfl | exact hB rfl
theorem LW {a : Bool} {A B : Prop} (hA : a = true → A) (hB : a = false → B) : if a = true then A else B := by
 cases a
 ·rw [if_neg Bool.false_ne_true]
  exact hB rfl
 ·rw [if_pos rfl]
  exact hA rfl
def Zce (o : OO) : Prop := ∃ a b c : Int, o = .lst [.int a, .int b, .int c]
def Pen (M : Mp) (p : Addr) : Prop := ∃ o, Zce o ∧ M p = some o
theorem Pen.Zv {M : Mp} {p : Addr} {o : OO} (h : Zce o) : Pen (Zv M p o) p := ⟨o, h, Zn⟩
theorem Pen.ne {M : Mp} {p q : Addr} (h : Pen M p) (hq : M q = none) : p ≠ q := fun e => by
 obtain ⟨o, _, ho⟩ := h
 rw [e, hq] at ho
 cases ho
theorem Pen.put {M : Mp} {p q : Addr} {o : OO} (h : Pen M p) (hq : p ≠ q) : Pen (DL.Zv M q o) p := by
 obtain ⟨o', h1, h2⟩ := h
 exact ⟨o', h1, by rw [Zp hq]; exact h2⟩
theorem Pen.del {M : Mp} {p q : Addr} (h : Pen M p) (hq : p ≠ q) : Pen (DL.J5 M q) p := by
 obtain ⟨o', h1, h2⟩ := h
 exact ⟨o', h1, by rw [VF hq]; exact h2⟩
def Zdt (x : DV) (P : List Int → Prop) : Prop := ∃ ns, x = .dat (.list (ns.map PyData.int)) ∧ P ns
theorem Se {x : DV} {P : List Int → Prop} (h : Zdt x P) : ∃ ns, x = .dat (.list (ns.map PyData.int)) ∧ P ns := h
theorem YU : ∀ {as bs : List Int}, as.map PyData.int = bs.map PyData.int → as = bs
 | [], [], _ => rfl
 | [], _ :: _, h => by simp at h
 | _ :: _, [], h => by simp at h
 | a :: as, b :: bs, h => by
  rw [List.map_cons, List.map_cons, List.cons.injEq, PyData.int.injEq] at h
  rw [h.1, YU h.2]
theorem Sq (bs : List Int) (P : List Int → Prop) : Zdt (.dat (.list (bs.map PyData.int))) P = P bs := propext ⟨fun ⟨cs, e, h⟩ => by
 rw [DV.dat.injEq, PyData.list.injEq] at e
 rw [YU e]
 exact h, fun h => ⟨bs, rfl, h⟩⟩
theorem tab {l : List Int} {r : Int} (P : Int → Prop) (h0 : 0 ≤ r) (h1 : r < l.length) (hl : ∀ w ∈ l, P w) {Q : PyData → Prop} (k : ∀ w, P w → Q (.int w)) : VN (l.map PyData.int) r Q := by
 obtain ⟨w, hw, e⟩ := S8 h0 h1
 exact JW e (k w (hl w hw))
def C8 : DSp := fun xs M Φ => on2 xs fun x y => Zdt x fun ns => onI y fun k => 0 ≤ k ∧ ∀ p o, M p = none → Zce o → Φ (.own p) (Zv M p o)
theorem L0 (xs : List DV) (M : Mp) (Φ : DK) : C8 xs M Φ = (on2 xs fun x y => Zdt x fun ns => onI y fun k => 0 ≤ k ∧ ∀ p o, M p = none → Zce o → Φ (.own p) (Zv M p o)) := propext Iff.rfl
def Fr (p : Addr) (M M' : Mp) : Prop := Pen M' p ∧ ∀ a, a ≠ p → M a ≠ none → M' a = M a
theorem Fr.refl {p : Addr} {M : Mp} (h : Pen M p) : Fr p M M := ⟨h, fun _ _ _ => rfl⟩
theorem Fr.trans {p : Addr} {M M1 M2 : Mp} (h : Fr p M M1) (k : Fr p M1 M2) : Fr p M M2 := ⟨k.1, fun a ha hn => by
 have e := h.2 a ha hn
 rw [← e]
 exact k.2 a ha (by rw [e]; exact hn)⟩
theorem Fr.Zv {p : Addr} {M : Mp} {o : OO} (h : Zce o) : Fr p M (Zv M p o) := ⟨Pen.Zv h, fun a ha _ => Zp ha⟩
theorem Fr.own {p q : Addr} {M M' : Mp} {o : OO} (h : Fr p M M') (hq : M q = some o) (hne : q ≠ p) : M' q = some o := by
 rw [h.2 q hne (by rw [hq]; exact Option.some_ne_none _)]
 exact hq
theorem Fr.new {p q : Addr} {M M' : Mp} {o : OO} (h : Fr p M M') (hq : M q = none) (hne : q ≠ p) : Fr p M (DL.Zv M' q o) := ⟨h.1.put (Ne.symm hne), fun a ha hn => by
 rw [Zp (fun e => hn (by rw [e]; exact hq))]
 exact h.2 a ha hn⟩
def JS : DSp := fun xs M Φ => on2 xs fun x y => onO x fun p => onI y fun m => (0 < m ∧ m < 10 ^ 20) ∧ Pen M p ∧ ∀ r M', 0 ≤ r → r < m → Fr p M M' → Φ (.dat (.int r)) M'
theorem LX (xs : List DV) (M : Mp) (Φ : DK) : JS xs M Φ = (on2 xs fun x y => onO x fun p => onI y fun m => (0 < m ∧ m < 10 ^ 20) ∧ Pen M p ∧ ∀ r M', 0 ≤ r → r < m → Fr p M M' → Φ (.dat (.int r)) M') := propext Iff.rfl
theorem Pen.get {M : Mp} {p : Addr} (h : Pen M p) : ∃ a b c : Int, M p = some (.lst [.int a, .int b, .int c]) := by
 obtain ⟨o, ⟨a, b, c, eo⟩, hp⟩ := h
 exact ⟨a, b, c, by rw [hp, eo]⟩
def VU (s : Str) : Prop := (1 ≤ s.length ∧ s.length ≤ 8) ∧ ∀ c ∈ s.cps.toList, 97 ≤ c ∧ c ≤ 122
def UN : DSp := fun xs M Φ => on2 xs fun x y => onO x fun p => onI y fun m => m = 6 ∧ Pen M p ∧ ∀ (ss : List Str) (M' : Mp), ss.length = 6 → ss.Nodup → (∀ s ∈ ss, VU s) → Fr p M M' → Φ (.dat (.list (ss.map PyData.str))) M'
theorem Fd (xs : List DV) (M : Mp) (Φ : DK) : UN xs M Φ = (on2 xs fun x y => onO x fun p => onI y fun m => m = 6 ∧ Pen M p ∧ ∀ (ss : List Str) (M' : Mp), ss.length = 6 → ss.Nodup → (∀ s ∈ ss, VU s) → Fr p M M' → Φ (.dat (.list (ss.map PyData.str))) M') := propext Iff.rfl
theorem abc : (Str.ofString "abcdefghijklmnopqrstuvwxyz").cps.toList = (List.range 26).map fun k => 97 + k := by decide +kernel
theorem Kw : (Str.ofString "abcdefghijklmnopqrstuvwxyz").length = 26 := by decide +kernel
theorem Bj {i : Int} (h0 : 0 ≤ i) (h1 : i < 26) : L2.atI (Str.ofString "abcdefghijklmnopqrstuvwxyz").cps.toList i = some (97 + i.toNat) := by
 obtain ⟨k, rfl⟩ := Int.eq_ofNat_of_zero_le h0
 rw [abc]
 refine J4 ?_
 rw [List.getElem?_map, List.getElem?_range (by omega)]
 rfl
noncomputable def Xu (b : Int) : Str := ⟨#[97 + b.toNat]⟩
theorem G3 {bs : List Int} {j : Int} (h0 : 0 ≤ j) (h1 : j ≤ bs.length) : DL.cutD (bs.map PyData.int) none (some j) = (bs.take j.toNat).map PyData.int := by
 unfold DL.cutD
 rw [Oa h0, HT.X2, List.drop_zero, List.length_map, Nat.sub_zero, ← List.map_take]
 congr 2
 omega
theorem K7 : ∀ bs : List Int, ((bs.map Xu).map (·.cps.toList)).flatten = bs.map fun b => 97 + b.toNat
 | [] => rfl
 | b :: bs => by
  rw [List.map_cons, List.map_cons, List.flatten_cons, K7 bs]
  rfl
noncomputable def nmS (bs : List Int) : Str := Txt.join (Str.ofString "") (bs.map Xu)
theorem GK (bs : List Int) : (nmS bs).cps.toList = bs.map fun b => 97 + b.toNat := by
 unfold nmS
 rw [DL.join_list, K7]
theorem OF (bs : List Int) : (nmS bs).length = bs.length := by rw [← str_len, GK, List.length_map]
theorem Zcp {bs : List Int} (h : bs.length ≤ 8) : JoinOk (Str.ofString "") (bs.map Xu) = true := by
 have e : (Str.ofString "").length = 0 := by decide +kernel
 refine Ro (B := 1) (fun y hy => ?_) (by rw [List.length_map, e]; omega)
 obtain ⟨c, _, rfl⟩ := List.mem_map.mp hy
 exact Nat.le_refl 1
theorem Fj {bs : List Int} (h : 1 ≤ bs.length ∧ bs.length ≤ 8) (hb : ∀ b ∈ bs, 0 ≤ b ∧ b < 26) : VU (nmS bs) := by
 refine ⟨by rw [OF]; exact h, fun c hc => ?_⟩
 rw [GK] at hc
 obtain ⟨b, hm, rfl⟩ := List.mem_map.mp hc
 have := hb b hm
 omega
theorem ZbG {α : Type} (f : Nat → α) (i : Nat) : (List.range i).map f ++ [f i] = (List.range (i + 1)).map f := by rw [List.range_succ, List.map_append]; rfl
theorem RB {bs : List Int} (a : Nat) (b : Int) : ((bs.map Xu).map PyData.str).set a (.str ⟨#[97 + b.toNat]⟩) = ((bs.set a b).map Xu).map PyData.str := by
 show ((bs.map Xu).map PyData.str).set a (.str (Xu b)) = _
 rw [List.map_set, List.map_set]
theorem By {ss : List Str} {α : Type} (f : Str → α) (g : Nat → α) (h : ∀ (j : Nat) (s : Str), ss[j]? = some s → f s = g j) (hg : ∀ i j, i < ss.length → j < ss.length → i ≠ j → g i ≠ g j) : ss.Nodup := by
 rw [List.nodup_iff_pairwise_ne, List.pairwise_iff_getElem]
 intro i j hi hj hij e
 have a := h i _ (List.getElem?_eq_getElem hi)
 have b := h j _ (List.getElem?_eq_getElem hj)
 rw [e] at a
 exact hg i j hi hj (by omega) (a.symm.trans b)
def TL (x : DV) (P : Int → Int → Int → Prop) : Prop := match x with | .dat (.tuple [.int i, .int j, .int k]) => P i j k | _ => False
theorem Hh (i j k : Int) (P : Int → Int → Int → Prop) : TL (.dat (.tuple [.int i, .int j, .int k])) P = P i j k := propext Iff.rfl
theorem Sa {x : DV} {P : Int → Int → Int → Prop} (h : TL x P) : ∃ i j k, x = .dat (.tuple [.int i, .int j, .int k]) ∧ P i j k := by
 unfold TL at h
 split at h
 ·exact ⟨_, _, _, rfl, h⟩
 ·exact h.elim
def Frm (f ox oy : Int) : Prop := (1 ≤ f ∧ f ≤ 1000000000) ∧ (-100000000000 ≤ ox ∧ ox ≤ 100000000000) ∧ (-100000000000 ≤ oy ∧ oy ≤ 100000000000)
def Lim (b : B4) : Prop := ((-1000000000000 ≤ b.x ∧ b.x ≤ 1000000000000) ∧ (-1000000000000 ≤ b.y ∧ b.y ≤ 1000000000000)) ∧ (-1000000000000 ≤ b.X ∧ b.X ≤ 1000000000000) ∧ (-1000000000000 ≤ b.Y ∧ b.Y ≤ 1000000000000)
def Bx (n : Int) (b : B4) : Prop := (b.x ≤ b.X ∧ b.y ≤ b.Y) ∧ (b.X - b.x ≤ 11 ∧ b.Y - b.y ≤ 11) ∧ (-(12 * n) ≤ b.x ∧ b.X ≤ 22 + 12 * n) ∧ (-(12 * n) ≤ b.y ∧ b.Y ≤ 22 + 12 * n)
def Sm (c : Int × Int) : Prop := (-99 ≤ c.1 ∧ c.1 ≤ 99) ∧ (-99 ≤ c.2 ∧ c.2 ≤ 99)
noncomputable def cD (c : Int × Int) : PyData := .tuple [.int c.1, .int c.2]
def V9 : DSp := fun xs M Φ => on1 xs fun x => onO x fun p => Pen M p ∧ ∀ f ox oy M', Frm f ox oy → Fr p M M' → Φ (.dat (.tuple [.int f, .int ox, .int oy])) M'
theorem CB (xs : List DV) (M : Mp) (Φ : DK) : V9 xs M Φ = (on1 xs fun x => onO x fun p => Pen M p ∧ ∀ f ox oy M', Frm f ox oy → Fr p M M' → Φ (.dat (.tuple [.int f, .int ox, .int oy])) M') := propext Iff.rfl
def Ka : DSp := fun xs M Φ => on1 xs fun x => onO x fun p => Pen M p ∧ ∀ (bs : List B4) M', (1 ≤ bs.length ∧ bs.length ≤ 6) → (∀ b ∈ bs, Bx 6 b) → Fr p M M' → Φ (.dat (.list (bs.map bD))) M'
theorem Cq (xs : List DV) (M : Mp) (Φ : DK) : Ka xs M Φ = (on1 xs fun x => onO x fun p => Pen M p ∧ ∀ (bs : List B4) M', (1 ≤ bs.length ∧ bs.length ≤ 6) → (∀ b ∈ bs, Bx 6 b) → Fr p M M' → Φ (.dat (.list (bs.map bD))) M') := propext Iff.rfl
def Kb : DSp := fun xs M Φ => on3 xs fun x y z => TL x fun f ox oy => onP y fun a b => onI z fun m => ((-200 ≤ a ∧ a ≤ 200) ∧ -200 ≤ b ∧ b ≤ 200) ∧ Φ (.dat (.tuple [.int (a * f + m + ox), .int (b * f + m + oy)])) M
theorem HI (xs : List DV) (M : Mp) (Φ : DK) : Kb xs M Φ = (on3 xs fun x y z => TL x fun f ox oy => onP y fun a b => onI z fun m => ((-200 ≤ a ∧ a ≤ 200) ∧ -200 ≤ b ∧ b ≤ 200) ∧ Φ (.dat (.tuple [.int (a * f + m + ox), .int (b * f + m + oy)])) M) := propext Iff.rfl
noncomputable def hsL (ls : List Str) (c : Addr) (f ox oy : Int) : List (Key × DV) := [(.inr (Str.ofString "lands"), .dat (.list (ls.map PyData.str))), (.inr (Str.ofString "corners"), .own c), (.inr (Str.ofString "frame"), .dat (.tuple [.int f, .int ox, .int oy]))]
noncomputable def hsO (ls : List Str) (c : Addr) (f ox oy : Int) : OO := .dko (hsL ls c f ox oy)
theorem Zd1 (ls : List Str) (c : Addr) (f ox oy : Int) (P : List (Key × DV) → Prop) : Oh (some (hsO ls c f ox oy)) P = P (hsL ls c f ox oy) := rfl
theorem Yz {a b : Str} (h : a.cps.toList ≠ b.cps.toList) {x : DV} {r : List (Key × DV)} : VT ((.inr a, x) :: r) (.inr b) = VT r (.inr b) := by
 unfold VT
 have n : ¬ decide ((.inr a : Key) = .inr b) = true := fun e => h (by rw [Sum.inr.inj (of_decide_eq_true e)])
 exact congrArg _ (List.find?_cons_of_neg (a := ((.inr a : Key), x)) (p := fun p => decide (p.1 = .inr b)) n)
theorem XQ {a : Str} {x : DV} {r : List (Key × DV)} : VT ((.inr a, x) :: r) (.inr a) = some x := by
 unfold VT
 rw [List.find?_cons_of_pos (a := ((.inr a : Key), x)) (p := fun p => decide (p.1 = .inr a)) (decide_eq_true rfl)]
 rfl
theorem ZgL (ls : List Str) (c : Addr) (f ox oy : Int) : VT (hsL ls c f ox oy) (.inr (Str.ofString "lands")) = some (.dat (.list (ls.map PyData.str))) := XQ
theorem Zgx (ls : List Str) (c : Addr) (f ox oy : Int) : VT (hsL ls c f ox oy) (.inr (Str.ofString "corners")) = some (.own c) := (Yz (by decide +kernel)).trans XQ
theorem ZfZ (ls : List Str) (c : Addr) (f ox oy : Int) : VT (hsL ls c f ox oy) (.inr (Str.ofString "frame")) = some (.dat (.tuple [.int f, .int ox, .int oy])) := (Yz (by decide +kernel)).trans ((Yz (by decide +kernel)).trans XQ)
structure Hs (M : Mp) (p q c : Addr) (ls : List Str) (n : Nat) : Prop where
 h1 : ∃ f ox oy, M q = some (hsO ls c f ox oy) ∧ Frm f ox oy
 h2 : ∃ cs : List (Int × Int), M c = some (.lst (cs.map cD)) ∧ (∀ k ∈ cs, Sm k) ∧ 1 ≤ cs.length ∧ cs.length ≤ n
 qp : q ≠ p
 cp : c ≠ p
 cq : c ≠ q
 nm : (5 ≤ ls.length ∧ ls.length ≤ 20) ∧ ls.Nodup ∧ ∀ s ∈ ls, VU s
def Fh (p c : Addr) (M M' : Mp) : Prop := Pen M' p ∧ ∀ a, a ≠ p → a ≠ c → M a ≠ none → M' a = M a
theorem Fr.fh {p c : Addr} {M M' : Mp} (h : Fr p M M') : Fh p c M M' := ⟨h.1, fun a ha _ hn => h.2 a ha hn⟩
theorem Fh.trans {p c : Addr} {M M1 M2 : Mp} (h : Fh p c M M1) (k : Fh p c M1 M2) : Fh p c M M2 := ⟨k.1, fun a ha hc hn => by
 have e := h.2 a ha hc hn
 rw [← e]
 exact k.2 a ha hc (by rw [e]; exact hn)⟩
theorem Hs.fr {M M' : Mp} {p q c : Addr} {ls : List Str} {n : Nat} (h : Hs M p q c ls n) (k : Fr p M M') : Hs M' p q c ls n := by
 obtain ⟨f, ox, oy, e1, hf⟩ := h.h1
 obtain ⟨cs, e2, hc⟩ := h.h2
 exact ⟨⟨f, ox, oy, k.own e1 h.qp, hf⟩, ⟨cs, k.own e2 h.cp, hc⟩, h.qp, h.cp, h.cq, h.nm⟩
def UB : DSp := fun xs M Φ => on1 xs fun x => onO x fun p => Pen M p ∧ ∀ q c ls M', M q = none → M c = none → Hs M' p q c ls 1 → Fr p M M' → Φ (.own q) M'
theorem Ee (xs : List DV) (M : Mp) (Φ : DK) : UB xs M Φ = (on1 xs fun x => onO x fun p => Pen M p ∧ ∀ q c ls M', M q = none → M c = none → Hs M' p q c ls 1 → Fr p M M' → Φ (.own q) M') := propext Iff.rfl
def XF : DSp := fun xs M Φ => on2 xs fun x y => onO x fun p => onO y fun q => ∃ c ls n, (Pen M p ∧ Hs M p q c ls n ∧ n ≤ 1000) ∧ ∀ (ou : Str) (bs : List B4) (wb : Int) M', (ou = Str.ofString "" ∨ ou ∈ ls) → Shp bs → (∀ b ∈ bs, Lim b) → (0 ≤ wb ∧ wb ≤ 10000000000) → Hs M' p q c ls (n + 12) → Fh p c M M' → Φ (.dat (.tuple [.str ou, .tuple (bs.map bD), .int wb])) M'
theorem He (xs : List DV) (M : Mp) (Φ : DK) : XF xs M Φ = (on2 xs fun x y => onO x fun p => onO y fun q => ∃ c ls n, (Pen M p ∧ Hs M p q c ls n ∧ n ≤ 1000) ∧ ∀ (ou : Str) (bs : List B4) (wb : Int) M', (ou = Str.ofString "" ∨ ou ∈ ls) → Shp bs → (∀ b ∈ bs, Lim b) → (0 ≤ wb ∧ wb ≤ 10000000000) → Hs M' p q c ls (n + 12) → Fh p c M M' → Φ (.dat (.tuple [.str ou, .tuple (bs.map bD), .int wb])) M') := propext Iff.rfl
def Gu : DSp := fun xs M Φ => on2 xs fun x y => onO x fun p => onO y fun q => ∃ c ls n, (Pen M p ∧ Hs M p q c ls n ∧ n ≤ 1000) ∧ ∀ u v M', Fr p M M' → Φ (.dat (.tuple [.int u, .int v])) M'
theorem Hy (xs : List DV) (M : Mp) (Φ : DK) : Gu xs M Φ = (on2 xs fun x y => onO x fun p => onO y fun q => ∃ c ls n, (Pen M p ∧ Hs M p q c ls n ∧ n ≤ 1000) ∧ ∀ u v M', Fr p M M' → Φ (.dat (.tuple [.int u, .int v])) M') := propext Iff.rfl
theorem Fr.fresh {p q : Addr} {M M' : Mp} (h : Fr p M M') (hq : M' q = none) : M q = none := by
 cases e : M q with
 | none => rfl
 | some o =>
  have hn : q ≠ p := Ne.symm (h.1.ne hq)
  rw [h.own e hn] at hq
  cases hq
theorem Fr.gone {p q : Addr} {M M' : Mp} (h : Fr p M M') (hq : M q = none) (hne : q ≠ p) : Fr p M (DL.J5 M' q) := ⟨h.1.del (Ne.symm hne), fun a ha hn => by
 rw [VF (fun e => hn (by rw [e]; exact hq))]
 exact h.2 a ha hn⟩
theorem Fr.put {p q : Addr} {M M' : Mp} {o : OO} (h : Fr p M M') (hq : M q = none) (hne : q ≠ p) : Fr p M (DL.Zv M' q o) := ⟨h.1.put (Ne.symm hne), fun a ha hn => by
 rw [Zp (fun e => hn (by rw [e]; exact hq))]
 exact h.2 a ha hn⟩
theorem Oo (ls : List Str) (c : Addr) (f ox oy : Int) : Gz [(.inr (Str.ofString "lands"), .dat (.list (ls.map PyData.str))), (.inr (Str.ofString "corners"), .own c)] (.inr (Str.ofString "frame")) (.dat (.tuple [.int f, .int ox, .int oy])) = hsL ls c f ox oy := by
 have n : ¬ ([((.inr (Str.ofString "lands") : Key), DV.dat (.list (ls.map PyData.str))), (.inr (Str.ofString "corners"), .own c)].any fun p => decide (p.1 = .inr (Str.ofString "frame"))) = true := fun e => by
  obtain ⟨x, hx, e⟩ := List.any_eq_true.mp e
  have e := congrArg (fun k : Key => (k.elim (fun _ => []) fun s => s.cps.toList : List Nat)) (of_decide_eq_true e)
  rcases List.mem_cons.mp hx with rfl | hx
  ·exact absurd (show (Str.ofString "lands").cps.toList = (Str.ofString "frame").cps.toList from e) (by decide +kernel)
  ·rw [List.mem_singleton.mp hx] at e
   exact absurd (show (Str.ofString "corners").cps.toList = (Str.ofString "frame").cps.toList from e) (by decide +kernel)
 unfold Gz
 rw [if_neg n]
 rfl
theorem Zde {α : Type} {g : α → PyData} {l : List α} {r : Int} (h0 : 0 ≤ r) (h1 : r < l.length) {Q : PyData → Prop} (k : ∀ a ∈ l, Q (g a)) : VN (l.map g) r Q := by
 obtain ⟨j, rfl⟩ := Int.eq_ofNat_of_zero_le h0
 have hj : j < l.length := by omega
 refine JW (d := g l[j]) (J4 ?_) (k _ (List.getElem_mem hj))
 rw [List.getElem?_map, List.getElem?_eq_getElem hj]
 rfl
theorem Fh.ext {p c b : Addr} {M M' : Mp} {o o' : OO} (h : Fh p c M M') (hp : p ≠ c) (hb : M' b = none) : Fh p c M (J5 (Zv (Zv M' b o) c o') b) := ⟨((h.1.put (h.1.ne hb)).put hp).del (h.1.ne hb), fun a ha hc hn => by
 have e := h.2 a ha hc hn
 have nb : a ≠ b := fun z => hn (by rw [← e, z]; exact hb)
 rw [VF nb, Zp hc, Zp nb]
 exact e⟩
noncomputable def layB (f ox oy : Int) (b : B4) : B4 := ⟨b.x * f + 0 + ox, b.y * f + 0 + oy, b.X * f + (f - 1) + ox, b.Y * f + (f - 1) + oy⟩
theorem YO {x f : Int} (hx : -94 ≤ x ∧ x ≤ 94) (hf : 1 ≤ f ∧ f ≤ 1000000000) : -94000000000 ≤ x * f ∧ x * f ≤ 94000000000 := by
 have := Int.mul_le_mul_of_nonneg_right hx.1 (show 0 ≤ f by omega)
 have := Int.mul_le_mul_of_nonneg_right hx.2 (show 0 ≤ f by omega)
 omega
theorem E8 {f x X : Int} (o : Int) (h : x ≤ X) (hf : 1 ≤ f) : x * f + 0 + o ≤ X * f + (f - 1) + o := by
 have := Int.mul_le_mul_of_nonneg_right h (show 0 ≤ f by omega)
 omega
def VB (n : Nat) : DSp := fun xs M Φ => on2 xs fun x y => ∃ m, n = m + 1 ∧ ((∃ s t, x = .dat (.str s) ∧ y = .dat (.str t) ∧ Φ (.dat (.bool (decide (s = t)))) M) ∨
 ∃ (q : Addr) (ss ts : List Str) (k : Nat), m = k + 1 ∧ x = .own q ∧ M q = some (.lst (ss.map PyData.str)) ∧ y = .dat (.list (ts.map PyData.str)) ∧ (ss.length ≤ 100 ∧ ts.length ≤ 100) ∧ Φ (.dat (.bool (decide (ss = ts)))) M)
theorem Hj (n : Nat) (xs : List DV) (M : Mp) (Φ : DK) : VB n xs M Φ = (on2 xs fun x y => ∃ m, n = m + 1 ∧ ((∃ s t, x = .dat (.str s) ∧ y = .dat (.str t) ∧ Φ (.dat (.bool (decide (s = t)))) M) ∨ ∃ (q : Addr) (ss ts : List Str) (k : Nat), m = k + 1 ∧ x = .own q ∧ M q = some (.lst (ss.map PyData.str)) ∧ y = .dat (.list (ts.map PyData.str)) ∧ (ss.length ≤ 100 ∧ ts.length ≤ 100) ∧ Φ (.dat (.bool (decide (ss = ts)))) M)) := propext Iff.rfl
theorem W3 (xs : List DV) (M : Mp) (Φ : DK) : ¬ VB 0 xs M Φ := fun h => by
 replace h := ZL h
 obtain ⟨x, y, rfl, h⟩ := h
 obtain ⟨m, e, _⟩ := h
 cases e
def Hg : DSp := fun xs M Φ => on3 xs fun x y z => G4 x fun bs => onI y fun u => onI z fun v => bs.length ≤ 6 ∧ Φ (.dat (.bool (anyB bs u v))) M
theorem Nm (xs : List DV) (M : Mp) (Φ : DK) : Hg xs M Φ = (on3 xs fun x y z => G4 x fun bs => onI y fun u => onI z fun v => bs.length ≤ 6 ∧ Φ (.dat (.bool (anyB bs u v))) M) := propext Iff.rfl
def Ge : DSp := fun xs M Φ => on3 xs fun x y z => G4 x fun bs => onI y fun wb => onP z fun u v => (Shp bs ∧ 0 ≤ wb) ∧ Φ (.dat (.str (Wq bs wb u v))) M
theorem FC (xs : List DV) (M : Mp) (Φ : DK) : Ge xs M Φ = (on3 xs fun x y z => G4 x fun bs => onI y fun wb => onP z fun u v => (Shp bs ∧ 0 ≤ wb) ∧ Φ (.dat (.str (Wq bs wb u v))) M) := propext Iff.rfl
theorem zip_map {α β : Type} (f : α → PyData) (g : β → PyData) : ∀ (as : List α) (bs : List β), HN (as.map f) (bs.map g) = (as.zip bs).map fun p => .tuple [f p.1, g p.2]
 | [], _ => by cases ‹List β› <;> rfl
 | _ :: _, [] => rfl
 | a :: as, b :: bs => by
  have ih := zip_map f g as bs
  unfold HN at ih ⊢
  rw [List.map_cons, List.map_cons, List.zip_cons_cons, List.map_cons, List.zipWith_cons_cons, ih]
theorem all_eq : ∀ {ss ts : List Str}, ss.length = ts.length → ((ss.zip ts).all fun p => decide (p.1 = p.2)) = decide (ss = ts)
 | [], [], _ => rfl
 | [], _ :: _, h => by cases h
 | _ :: _, [], h => by cases h
 | a :: as, b :: bs, h => by
  rw [List.zip_cons_cons, List.all_cons, all_eq (Nat.succ.inj h)]
  by_cases e : a = b
  ·by_cases e' : as = bs
   ·simp [e, e']
   ·simp [e, e']
  ·simp [e]
noncomputable def plc (a z : Int) (cs : List Int) : List Int := a :: cs.filter fun c => decide (a < c) && decide (c ≤ z)
noncomputable def Rv (bs : List B4) : List Int := bs.map (·.x) ++ bs.map (·.X + 1)
noncomputable def Tn (bs : List B4) : List Int := bs.map (·.y) ++ bs.map (·.Y + 1)
theorem OY {a z c : Int} {cs : List Int} (ha : a ≤ z) (h : c ∈ plc a z cs) : a ≤ c ∧ c ≤ z := by
 rcases List.mem_cons.mp h with rfl | h
 ·omega
 ·obtain ⟨_, h⟩ := List.mem_filter.mp h
  simp only [Bool.and_eq_true, decide_eq_true_eq] at h
  omega
theorem EW {a z x : Int} {cs : List Int} (h1 : a ≤ x) (h2 : x ≤ z) : ∃ r ∈ plc a z cs, r ≤ x ∧ ∀ c ∈ cs, c ≤ x ↔ c ≤ r := by
 obtain ⟨r, hr, hm⟩ := Ek (fun c => -c) ((plc a z cs).filter fun c => decide (c ≤ x)) (by
  exact List.ne_nil_of_mem (List.mem_filter.mpr ⟨List.mem_cons_self, decide_eq_true h1⟩))
 obtain ⟨hr1, hr2⟩ := List.mem_filter.mp hr
 have hr2 := of_decide_eq_true hr2
 refine ⟨r, hr1, hr2, fun c hc => ⟨fun hx => ?_, fun hx => Int.le_trans hx hr2⟩⟩
 by_cases hac : a < c
 ·have := hm c (List.mem_filter.mpr ⟨List.mem_cons_of_mem _ (List.mem_filter.mpr ⟨hc, by simp only [Bool.and_eq_true, decide_eq_true_eq]; omega⟩), decide_eq_true hx⟩)
  omega
 ·have := hm a (List.mem_filter.mpr ⟨List.mem_cons_self, decide_eq_true h1⟩)
  omega
theorem RW {bs : List B4} {u v wb x y : Int} (hc : Qz u v x y ≤ wb) : ∃ x' ∈ plc (u - wb) (u + wb) (Rv bs), ∃ y' ∈ plc (v - wb) (v + wb) (Tn bs), anyB bs x y = anyB bs x' y' := by
 have hc := Qb.mp hc
 obtain ⟨x', hx, hx1, hx2⟩ := EW (a := u - wb) (z := u + wb) (x := x) (cs := Rv bs) (by omega) (by omega)
 obtain ⟨y', hy, hy1, hy2⟩ := EW (a := v - wb) (z := v + wb) (x := y) (cs := Tn bs) (by omega) (by omega)
 refine ⟨x', hx, y', hy, ?_⟩
 have e : ∀ b ∈ bs, hasB b x y = hasB b x' y' := fun b hb => by
  have a1 := hx2 b.x (List.mem_append_left _ (List.mem_map_of_mem hb))
  have a2 := hx2 (b.X + 1) (List.mem_append_right _ (List.mem_map.mpr ⟨b, hb, rfl⟩))
  have a3 := hy2 b.y (List.mem_append_left _ (List.mem_map_of_mem hb))
  have a4 := hy2 (b.Y + 1) (List.mem_append_right _ (List.mem_map.mpr ⟨b, hb, rfl⟩))
  unfold hasB
  refine decide_eq_decide.mpr ?_
  omega
 unfold anyB
 rw [Bool.eq_iff_iff, List.any_eq_true, List.any_eq_true]
 exact ⟨fun ⟨b, hb, h⟩ => ⟨b, hb, by rw [← e b hb]; exact h⟩, fun ⟨b, hb, h⟩ => ⟨b, hb, by rw [e b hb]; exact h⟩⟩
noncomputable def smp (bs : List B4) (u v wb : Int) : List Bool := (plc (u - wb) (u + wb) (Rv bs)).flatMap fun x => (plc (v - wb) (v + wb) (Tn bs)).map fun y => anyB bs x y
theorem XU {bs : List B4} {u v wb : Int} (hw : 0 ≤ wb) (t : Bool) : t ∈ smp bs u v wb ↔ ∃ x y, Qz u v x y ≤ wb ∧ anyB bs x y = t := by
 unfold smp
 rw [List.mem_flatMap]
 constructor
 ·rintro ⟨x, hx, hy⟩
  obtain ⟨y, hy, e⟩ := List.mem_map.mp hy
  have a1 := OY (by omega) hx
  have a2 := OY (by omega) hy
  exact ⟨x, y, Qb.mpr (by omega), e⟩
 ·rintro ⟨x, y, hc, e⟩
  obtain ⟨x', hx, y', hy, e'⟩ := RW hc
  exact ⟨x', hx, List.mem_map.mpr ⟨y', hy, by rw [← e', e]⟩⟩
theorem NQ {bs : List B4} {u v wb : Int} (hw : 0 ≤ wb) : Wq bs wb u v = if false ∈ smp bs u v wb then (if true ∈ smp bs u v wb then Str.ofString "between" else Str.ofString "out") else Str.ofString "in" := by
 unfold Wq
 by_cases h1 : false ∈ smp bs u v wb
 ·obtain ⟨x, y, hc, e⟩ := (XU hw false).mp h1
  rw [if_pos h1, if_neg fun k => by rw [k x y hc] at e; cases e]
  by_cases h2 : true ∈ smp bs u v wb
  ·obtain ⟨x, y, hc, e⟩ := (XU hw true).mp h2
   rw [if_pos h2, if_neg fun k => by rw [k x y hc] at e; cases e]
  ·rw [if_neg h2, if_pos fun x y hc => by
    cases q : anyB bs x y with
    | false => rfl
    | true => exact absurd ((XU hw true).mpr ⟨x, y, hc, q⟩) h2]
 ·rw [if_neg h1, if_pos fun x y hc => by
   cases q : anyB bs x y with
   | true => rfl
   | false => exact absurd ((XU hw false).mpr ⟨x, y, hc, q⟩) h1]
theorem V0 (t : Bool) (bs : List Bool) : okIn (.bool t) (bs.map PyData.bool) = true ∧ ((bs.map PyData.bool).any fun e => PyData.eqv e (.bool t)) = decide (t ∈ bs) := by
 constructor
 ·have lay : PyData.canLayAll0 (bs.map PyData.bool) = true := by
   induction bs with
   | nil => simp [PyData.canLayAll0]
   | cons x l ih => rw [List.map_cons, PyData.canLayAll0, ih]; simp [PyData.canLay0]
  unfold okIn
  rw [lay]
  simp [PyData.depth, PyData.canLay0]
 ·rw [Bool.eq_iff_iff, List.any_map, List.any_eq_true, decide_eq_true_eq]
  constructor
  ·rintro ⟨x, hx, e⟩
   have e : PyData.eqv (.bool x) (.bool t) = true := e
   rw [SN] at e
   have e : x = t := by simpa using e
   rw [← e]
   exact hx
  ·intro ht
   exact ⟨t, ht, by show PyData.eqv (.bool t) (.bool t) = true; rw [SN]; simp⟩
theorem G0 {x y : Int} {i : Nat} (h : i < 2) (P : PyData → Prop) : VN [.int x, .int y] (i : Int) P = P (.int (if i = 0 then x else y)) := by
 rcases (show i = 0 ∨ i = 1 by omega) with rfl | rfl
 ·rfl
 ·rfl
theorem Ry {l : List PyData} {a b c : Int} : if decide (a < c) = true then (if decide (c ≤ b) = true then l ++ [.int c] = l ++ ([c].filter fun c => decide (a < c) && decide (c ≤ b)).map PyData.int else l = l ++ ([c].filter fun c => decide (a < c) && decide (c ≤ b)).map PyData.int) else l = l ++ ([c].filter fun c => decide (a < c) && decide (c ≤ b)).map PyData.int := by
 cases h1 : decide (a < c) <;> cases h2 : decide (c ≤ b) <;> simp [List.filter, h1, h2]
noncomputable def Ck (i : Nat) (bs : List B4) : List Int := bs.map (fun b => if i = 0 then b.x else b.y) ++ bs.map (fun b => (if i = 0 then b.X else b.Y) + 1)
noncomputable def YF (bs : List B4) (u v wb : Int) (i : Nat) : List Int := plc ((if i = 0 then u else v) - wb) ((if i = 0 then u else v) + wb) (Ck i bs)
theorem O7 {Φ : DK} {x : DV} {M : Mp} {p q : Addr} {a b : OO} (hp : M p = none) (hq : Zv M p a q = none) (h : Φ x M) : gc Φ x (Zv (Zv M p a) q b) := by
 refine ⟨[q, p], ?_⟩
 show Φ x (J5 (J5 (Zv (Zv M p a) q b) q) p)
 rw [Q3 hq, Q3 hp]
 exact h
theorem SU (ss : List Str) (h : ∀ s ∈ ss, Xj s) : HM (.list (ss.map PyData.str)) (.list (ss.map PyData.str)) = true ∧ PyData.eqv (.list (ss.map PyData.str)) (.list (ss.map PyData.str)) = true := by
 have lay : PyData.canLayAll0 (ss.map PyData.str) = true ∧ PyData.depthAll (ss.map PyData.str) = 0 := by
  induction ss with
  | nil => simp [PyData.canLayAll0, PyData.depthAll]
  | cons x l ih =>
   have := ih fun t ht => h t (.tail _ ht)
   rw [List.map_cons, PyData.canLayAll0, PyData.depthAll, this.1, this.2, h x (.head _)]
   simp [PyData.depth]
 have c : (PyData.list (ss.map PyData.str)).canLay0 = true := lay.1
 refine ⟨?_, PySem.SeqAt.eqv_refl _ c⟩
 unfold HM
 rw [c, PyData.depth, lay.2]
 rfl
theorem P4 {a b c o : Bool} {A B : Prop} (hA : (a || (b && c)) = true → A) (hB : (a || (b && c)) = false → B) (ho : o = true) : if a = true then A else if b = true then (o = true ∧ if c = true then A else B) else B := by
 subst ho
 cases a <;> cases b <;> cases c <;> simp only [Bool.false_eq_true, if_true, if_false, true_and] <;> first | exact hA rfl | exact hB rfl
noncomputable def ldV (l : Ld) : PyData := .tuple [.str l.o, .tuple (l.bs.map bD), .int l.wb]
theorem OX (l : Ld) : ldV l = .tuple [.str l.o, .tuple (l.bs.map bD), .int l.wb] := rfl
noncomputable def CF (ls : List Ld) : List (Key × PyData) := ls.map fun l => ((.inr l.n : Key), ldV l)
def Tab (M : Mp) (q : Addr) (ls : List Ld) : Prop := M q = some (.dkv (CF ls)) ∨ ∃ o, M q = some (.fdk o (CF ls))
theorem Tab.ne {M : Mp} {q : Addr} {ls : List Ld} (h : Tab M q ls) : M q ≠ none := by
 rcases h with h | ⟨o, h⟩ <;> rw [h] <;> exact Option.some_ne_none _
theorem Tab.of {M M' : Mp} {q : Addr} {ls : List Ld} (h : Tab M q ls) (e : M' q = M q) : Tab M' q ls := by
 unfold Tab
 rw [e]
 exact h
theorem Tab.src {M : Mp} {q : Addr} {ls : List Ld} {Ψ : List PyData → (Mp → Prop) → Mp → Prop} (h : Tab M q ls) (k : ∀ o M1, M1 q = some (.fdk o (CF ls)) → (∀ a, a ≠ q → M1 a = M a) → Ψ (ls.map fun l => .str l.n) (fun M2 => M2 q = some (.fdk o (CF ls))) M1) :
  OL (M q) (fun ps => ∀ o, Ψ (ps.map fun p => kD p.1) (fun M2 => M2 q = some (.fdk o ps)) (Zv M q (.fdk o ps))) fun o ps => Ψ (ps.map fun p => kD p.1) (fun M2 => M2 q = some (.fdk o ps)) M := by
 have e : (CF ls).map (fun p => kD p.1) = ls.map fun l => .str l.n := by
  unfold CF
  rw [List.map_map]
  rfl
 rcases h with h | ⟨o, h⟩
 ·rw [h, Bw, e]
  exact fun o => k o _ Zn fun a ha => Zp ha
 ·rw [h, H9, e]
  exact k o _ h fun _ _ => rfl
theorem Tab.rd {M : Mp} {q : Addr} {ls : List Ld} {P : List (Key × PyData) → Prop} (h : Tab M q ls) (k : P (CF ls)) : HR (M q) P := by
 rcases h with h | ⟨o, h⟩
 ·rw [h, GV]
  exact k
 ·rw [h, Ye]
  exact k
theorem Uo : ∀ {ls : List Ld} {l : Ld}, (ls.map (·.n)).Nodup → l ∈ ls → Qp (CF ls) (.inr l.n) = some (ldV l)
 | a :: ls, l, h, hl => by
  rw [List.map_cons, List.nodup_cons] at h
  unfold Qp CF
  rw [List.map_cons]
  rcases List.mem_cons.mp hl with rfl | hl
  ·rw [List.find?_cons_of_pos (by simp)]
   rfl
  ·have ne : a.n ≠ l.n := fun e => h.1 (by rw [e]; exact List.mem_map_of_mem hl)
   rw [List.find?_cons_of_neg (by simpa using ne)]
   exact Uo h.2 hl
def XD : DSp := fun xs M Φ => on1 xs fun x => onO x fun q => ∃ ls, (Tab M q ls ∧ YX ls) ∧ ∀ M' r ps, Tab M' q ls → (∀ a, a ≠ q → M a ≠ none → M' a = M a) → M r = none → M' r = some (.dkv ps) → Tb (ls.map ldR) ps → Full (ls.map ldR) ps (ls.map ldR).length → Φ (.own r) M'
theorem Ci (xs : List DV) (M : Mp) (Φ : DK) : XD xs M Φ = (on1 xs fun x => onO x fun q => ∃ ls, (Tab M q ls ∧ YX ls) ∧ ∀ M' r ps, Tab M' q ls → (∀ a, a ≠ q → M a ≠ none → M' a = M a) → M r = none → M' r = some (.dkv ps) → Tb (ls.map ldR) ps → Full (ls.map ldR) ps (ls.map ldR).length → Φ (.own r) M') := propext Iff.rfl
def Fc : DSp := fun xs M Φ => on3 xs fun x y z => onO x fun q => MU y fun ss => onP z fun u v => ∃ ls, (Tab M q ls ∧ YX ls ∧ Pk ls ∧ ∀ s ∈ ss, Xj s) ∧ ∀ ls' ns M', U6 ls ls' → ns.Perm (QR ss u v ls') → sortedS ns = true → (∀ a, a ≠ q → M a ≠ none → M' a = M a) → Φ (.dat (.list (ns.map PyData.str))) M'
theorem Ln (xs : List DV) (M : Mp) (Φ : DK) : Fc xs M Φ = (on3 xs fun x y z => onO x fun q => MU y fun ss => onP z fun u v => ∃ ls, (Tab M q ls ∧ YX ls ∧ Pk ls ∧ ∀ s ∈ ss, Xj s) ∧ ∀ ls' ns M', U6 ls ls' → ns.Perm (QR ss u v ls') → sortedS ns = true → (∀ a, a ≠ q → M a ≠ none → M' a = M a) → Φ (.dat (.list (ns.map PyData.str))) M') := propext Iff.rfl
def XH : DSp := fun xs M Φ => on3 xs fun x y z => BY x fun ls => MU y fun ss => onP z fun u v => (YX ls ∧ Pk ls ∧ (∀ s ∈ ss, Xj s) ∧ ss.length ≤ 100) ∧ ∀ M', (∀ a, M a ≠ none → M' a = M a) → Φ (.dat (.bool true)) M'
theorem DU (xs : List DV) (M : Mp) (Φ : DK) : XH xs M Φ = (on3 xs fun x y z => BY x fun ls => MU y fun ss => onP z fun u v => (YX ls ∧ Pk ls ∧ (∀ s ∈ ss, Xj s) ∧ ss.length ≤ 100) ∧ ∀ M', (∀ a, M a ≠ none → M' a = M a) → Φ (.dat (.bool true)) M') := propext Iff.rfl
theorem Zbs {ls : List Ld} (ho : YX ls) {ps : List (Key × PyData)} (ht : Tb (ls.map ldR) ps) (hf : Full (ls.map ldR) ps (ls.map ldR).length) : ∃ lt : List Ld, ps = lt.map (fun l => ((.inr l.n : Key), PyData.int (lvN ls l))) ∧ lt.Perm (ls.filter (Ba ls)) := by
 have lr : (ls.map ldR).length = ls.length := List.length_map ..
 have len := ht.len
 have go : ∀ qs : List (Key × PyData), (∀ k d, (k, d) ∈ qs → (k, d) ∈ ps) → ∃ lt : List Ld, qs = lt.map (fun l => ((.inr l.n : Key), PyData.int (lvN ls l))) ∧ ∀ l ∈ lt, l ∈ ls ∧ Ba ls l = true := fun qs => by
  induction qs with
  | nil => intro _; exact ⟨[], rfl, fun l hl => (nomatch hl)⟩
  | cons p qs ih =>
   intro hq
   obtain ⟨lt, e1, e2⟩ := ih fun k d hk => hq k d (.tail _ hk)
   obtain ⟨s, m, a1, a2, a3, a4, a5⟩ := ht.ok p.1 p.2 (hq p.1 p.2 (.head _))
   rw [List.map_map] at a3
   obtain ⟨l, hl, el⟩ := List.mem_map.mp a3
   have el : l.n = s := el
   have lv : lvl ls l = some m := by
    unfold lvl
    rw [el]
    exact O0 a4 (by omega)
   refine ⟨l :: lt, ?_, fun l' hl' => ?_⟩
   ·rw [List.map_cons, e1, el]
    unfold lvN
    rw [lv]
    show (p.1, p.2) :: _ = _
    rw [a1, a2]
    rfl
   ·rcases List.mem_cons.mp hl' with rfl | hl'
    ·refine ⟨hl, ?_⟩
     unfold Ba
     rw [lv]
     rfl
    ·exact e2 l' hl'
 obtain ⟨lt, e1, e2⟩ := go ps fun _ _ h => h
 refine ⟨lt, e1, ?_⟩
 have nd1 : lt.Nodup := by
  have := ht.nd
  rw [e1, List.map_map] at this
  rw [List.nodup_iff_pairwise_ne] at this ⊢
  rw [List.pairwise_map] at this
  exact this.imp fun h e => h (by rw [e])
 have nd2 : (ls.filter (Ba ls)).Nodup := by
  rw [List.nodup_iff_pairwise_ne]
  exact (ho.2.2.filter _).imp fun hab e => absurd hab (by rw [e]; exact List.lt_irrefl _)
 rw [List.perm_ext_iff_of_nodup nd1 nd2]
 intro l
 rw [List.mem_filter]
 refine ⟨e2 l, fun ⟨hl, hh⟩ => ?_⟩
 obtain ⟨m, em⟩ : ∃ m, lvl ls l = some m := Option.isSome_iff_exists.mp hh
 obtain ⟨a, b⟩ := DR em
 obtain ⟨p, hp, ep⟩ := hf l.n m a b
 rw [e1] at hp
 obtain ⟨l', hl', rfl⟩ := List.mem_map.mp hp
 rw [← ho.inj (e2 l' hl').1 hl (Sum.inr.inj ep)]
 exact hl'
noncomputable def pr2 (ls : List Ld) (l : Ld) : PyData := .tuple [.int (lvN ls l), .str l.n]
theorem ZcN (ls : List Ld) (l : Ld) : pr2 ls l = .tuple [.int (lvN ls l), .str l.n] := rfl
theorem ZbH {ls lt : List Ld} (hn : (lt.map (·.n)).Nodup) {l : Ld} (hl : l ∈ lt) : Qp (lt.map fun l => ((.inr l.n : Key), PyData.int (lvN ls l))) (.inr l.n) = some (.int (lvN ls l)) := by
 induction lt with
 | nil => cases hl
 | cons a lt ih =>
  rw [List.map_cons, List.nodup_cons] at hn
  unfold Qp
  rw [List.map_cons]
  rcases List.mem_cons.mp hl with rfl | hl
  ·rw [List.find?_cons_of_pos (by simp)]
   rfl
  ·have ne : a.n ≠ l.n := fun e => hn.1 (by rw [e]; exact List.mem_map_of_mem hl)
   rw [List.find?_cons_of_neg (by simpa using ne)]
   exact ih hn.2 hl
theorem Rc {M : Mp} {q : Addr} {ps : List (Key × PyData)} {P : List (Key × PyData) → Prop} {Q : Obj → List (Key × PyData) → Prop} (h : M q = some (.dkv ps)) (k : P ps) : OL (M q) P Q := by
 rw [h, Bw]
 exact k
theorem Mw {ls : List Ld} (h : (ls.map (·.n)).Nodup) : Uc (ls.map fun l => (l.n, ldV l)) = CF ls := by
 unfold Uc
 rw [XO _ _ (by rw [List.map_map]; exact h) fun p _ q hq => by cases hq]
 rw [List.nil_append, List.map_map]
 rfl
theorem S1 (l : Ld) : cutD [.str l.n, .str l.o, .tuple (l.bs.map bD), .int l.wb] (some 1) none = [.str l.o, .tuple (l.bs.map bD), .int l.wb] := rfl
structure Pl (k n : Nat) (d : PyData) : Prop where
 s : d.showable = true
 nd : d.hasDict = false
 nl : Qa d = false
 dp : d.depth ≤ k
 z : cost d ≤ n
structure Pls (k n : Nat) (l : List PyData) : Prop where
 s : PyData.showableAll l = true
 nd : PyData.hasDictAll l = false
 nl : ZZ l = false
 dp : PyData.depthAll l ≤ k
 z : Jg l ≤ n
structure Od (k n : Nat) (d : PyData) : Prop where
 s : d.showable = true
 m : (d.hasDict && Qa d) = false
 dp : d.depth ≤ k
 z : cost d ≤ n
theorem Pl.od {k n : Nat} {d : PyData} (h : Pl k n d) : Od k n d := ⟨h.s, by rw [h.nd]; rfl, h.dp, h.z⟩
theorem Od.le {k n k' n' : Nat} {d : PyData} (h : Od k n d) (hk : k ≤ k') (hn : n ≤ n') : Od k' n' d := ⟨h.s, h.m, Nat.le_trans h.dp hk, Nat.le_trans h.z hn⟩
theorem Pl.le {k n k' n' : Nat} {d : PyData} (h : Pl k n d) (hk : k ≤ k') (hn : n ≤ n') : Pl k' n' d := ⟨h.s, h.nd, h.nl, Nat.le_trans h.dp hk, Nat.le_trans h.z hn⟩
theorem Od.shw {k n : Nat} {d : PyData} (h : Od k n d) (hk : k ≤ 64) (hn : n ≤ 1000000) : Shw d := Shw.of h.s h.m (Nat.le_trans h.dp hk) (Nat.le_trans h.z hn)
theorem Pls.nil : Pls 0 0 [] := ⟨by simp [PyData.showableAll], by simp [PyData.hasDictAll], by simp [ZZ], by simp [PyData.depthAll], by simp [Jg]⟩
theorem Pls.cons {k n k' m : Nat} {d : PyData} {l : List PyData} (h : Pl k n d) (t : Pls k' m l) : Pls (max k k') (n + 2 + m) (d :: l) :=
 ⟨by simp only [PyData.showableAll, h.s, t.s, Bool.and_self], by simp only [PyData.hasDictAll, h.nd, t.nd, Bool.or_self], by simp only [ZZ, h.nl, t.nl, Bool.or_self],
  by simp only [PyData.depthAll]; have := h.dp; have := t.dp; omega, by simp only [Jg]; have := h.z; have := t.z; omega⟩
theorem Pls.le {k n k' n' : Nat} {l : List PyData} (h : Pls k n l) (hk : k ≤ k') (hn : n ≤ n') : Pls k' n' l := ⟨h.s, h.nd, h.nl, Nat.le_trans h.dp hk, Nat.le_trans h.z hn⟩
theorem Pls.all {k n m : Nat} : ∀ {l : List PyData}, l.length ≤ m → (∀ d ∈ l, Pl k n d) → Pls k ((n + 2) * m) l
 | [], _, _ => Pls.nil.le (Nat.zero_le _) (Nat.zero_le _)
 | d :: l, hm, h => by
  obtain ⟨m, rfl⟩ : ∃ m', m = m' + 1 := ⟨m - 1, by rw [List.length_cons] at hm; omega⟩
  refine (Pls.cons (h d List.mem_cons_self) (Pls.all (m := m) (by rw [List.length_cons] at hm; omega) fun e he => h e (List.mem_cons_of_mem _ he))).le (by omega) ?_
  rw [Nat.mul_succ]
  omega
theorem Pl.tup {k n : Nat} {l : List PyData} (h : Pls k n l) : Pl (k + 1) (n + 3) (.tuple l) :=
 ⟨by simp only [PyData.showable.eq_6, h.s], by simp only [PyData.hasDict, h.nd], by simp only [Qa, h.nl], by simp only [PyData.depth]; have := h.dp; omega, by simp only [cost]; have := h.z; omega⟩
theorem ZbP {i : Int} (h : -(10 ^ 60) ≤ i ∧ i ≤ 10 ^ 60) : Pl 0 1921 (.int i) := ⟨Mid.show ⟨by omega, by omega⟩, by simp [PyData.hasDict], by simp [Qa], by simp [PyData.depth], by simp [cost]⟩
theorem Zfc {s : Str} (h : ∀ c ∈ s.cps.toList, c < 16 ^ 8) {n : Nat} (hn : s.length ≤ n) : Pl 0 (10 * n + 2) (.str s) := ⟨by simp [PyData.showable], by simp [PyData.hasDict], by simp [Qa], by simp [PyData.depth], by
 simp only [cost]
 have := StrLaws.reprText_len s h
 omega⟩
theorem Lk (t : String) : ∀ c ∈ (Str.ofString t).cps.toList, c < 16 ^ 8 := by
 intro c hc
 rw [PySem.Str.ofString_eq_toList] at hc
 simp at hc
 obtain ⟨a, _, rfl⟩ := hc
 have h := a.valid
 show a.val.toNat < 16 ^ 8
 unfold UInt32.isValidChar Nat.isValidChar at h
 omega
theorem Zf0 (t : String) {n : Nat} (hn : (Str.ofString t).length ≤ n) : Pl 0 (10 * n + 2) (.str (Str.ofString t)) := Zfc (Lk t) hn
theorem pNm {s : Str} (h : VU s) : Pl 0 82 (.str s) := Zfc (n := 8) (fun c hc => by have := h.2 c hc; omega) h.1.2
def Ou (ls : List Str) (s : Str) : Prop := s = Str.ofString "" ∨ s ∈ ls
def Gd (ls : List Str) (l : Ld) : Prop := l.n ∈ ls ∧ Ou ls l.o ∧ Shp l.bs ∧ (∀ b ∈ l.bs, Lim b) ∧ 0 ≤ l.wb ∧ l.wb ≤ 10000000000
def Gr : DSp := fun xs M Φ => on2 xs fun x y => onO x fun p => onO y fun q => ∃ c ls n, (Pen M p ∧ Hs M p q c ls n ∧ n ≤ 500) ∧ ∀ lds M', lds.length ≤ 5 → YX lds → (∀ l ∈ lds, Gd ls l) → Hs M' p q c ls (n + 60) → Fh p c M M' → Φ (.dat (.tuple (lds.map ldD))) M'
theorem Di (xs : List DV) (M : Mp) (Φ : DK) : Gr xs M Φ = (on2 xs fun x y => onO x fun p => onO y fun q => ∃ c ls n, (Pen M p ∧ Hs M p q c ls n ∧ n ≤ 500) ∧ ∀ lds M', lds.length ≤ 5 → YX lds → (∀ l ∈ lds, Gd ls l) → Hs M' p q c ls (n + 60) → Fh p c M M' → Φ (.dat (.tuple (lds.map ldD))) M') := propext Iff.rfl
def EK : DSp := fun xs M Φ => on1 xs fun x => onO x fun p => Pen M p ∧ ∀ M', Φ (.dat (.bool true)) M'
theorem MW (xs : List DV) (M : Mp) (Φ : DK) : EK xs M Φ = (on1 xs fun x => onO x fun p => Pen M p ∧ ∀ M', Φ (.dat (.bool true)) M') := propext Iff.rfl
theorem VU.lay {s : Str} (h : VU s) : Xj s := by
 show s.cps.all (fun c => decide (c < 0x110000)) = true
 rw [← Array.all_toList]
 exact List.all_eq_true.mpr fun c hc => decide_eq_true (by have := h.2 c hc; omega)
theorem ZcR : Xj (Str.ofString "") := by
 unfold Xj
 decide +kernel
theorem Ou.lay {ls : List Str} {s : Str} (h : Ou ls s) (k : ∀ s ∈ ls, VU s) : Xj s := by
 rcases h with rfl | h
 ·exact ZcR
 ·exact (k s h).lay
theorem DX {ls : List Ld} (hn : (ls.map (·.n)).Nodup) (hl : ls.length ≤ 24) (ok : ∀ l ∈ ls, Zbu l) {ls' : List Ld} (hp : ls'.Perm ls) (hs : (ls'.map ldD).Pairwise leK) : YX ls' := by
 refine ⟨by rw [hp.length_eq]; exact hl, fun l hl => ok l (hp.mem_iff.mp hl), ?_⟩
 have nd : (ls'.map (·.n)).Nodup := (List.Perm.nodup_iff (hp.map _)).mpr hn
 rw [List.nodup_iff_pairwise_ne, List.pairwise_map] at nd
 rw [List.pairwise_map] at hs
 refine (nd.and hs).imp fun {a b} h => ?_
 have h2 := h.2 a.n b.n rfl rfl
 rcases (List.le_iff_lt_or_eq (l₁ := a.n.cps.toList) (l₂ := b.n.cps.toList)).mp h2 with z | z
 ·exact z
 ·exact absurd (Gx z) h.1
theorem U7 {α : Type} {g : α → PyData} {l : List α} (h : l ≠ []) {Q : PyData → Prop} (k : ∀ a ∈ l, Q (g a)) : VN (l.map g) (-1) Q := by
 show UR (l.map g).reverse 0 Q
 rw [← List.map_reverse]
 cases e : l.reverse with
 | nil => exact absurd (List.reverse_eq_nil_iff.mp e) h
 | cons a r =>
  rw [List.map_cons]
  exact k a (List.mem_reverse.mp (by rw [e]; exact List.mem_cons_self))
theorem Hs.keep {M M' : Mp} {p q c : Addr} {ls : List Str} {n : Nat} (h : Hs M p q c ls n) (k : ∀ a, M a ≠ none → M' a = M a) : Hs M' p q c ls n := by
 obtain ⟨f, ox, oy, e1, hf⟩ := h.h1
 obtain ⟨cs, e2, hc⟩ := h.h2
 exact ⟨⟨f, ox, oy, (k q (by rw [e1]; exact Option.some_ne_none _)).trans e1, hf⟩, ⟨cs, (k c (by rw [e2]; exact Option.some_ne_none _)).trans e2, hc⟩, h.qp, h.cp, h.cq, h.nm⟩
theorem Pen.keep {M M' : Mp} {p : Addr} (h : Pen M p) (k : ∀ a, M a ≠ none → M' a = M a) : Pen M' p := by
 obtain ⟨o, h1, h2⟩ := h
 exact ⟨o, h1, (k p (by rw [h2]; exact Option.some_ne_none _)).trans h2⟩
theorem Hs.put {M : Mp} {p q c r : Addr} {ls : List Str} {n : Nat} {o : OO} (h : Hs M p q c ls n) (h1 : q ≠ r) (h2 : c ≠ r) : Hs (Zv M r o) p q c ls n := by
 obtain ⟨f, ox, oy, e1, hf⟩ := h.h1
 obtain ⟨cs, e2, hc⟩ := h.h2
 exact ⟨⟨f, ox, oy, (Zp h1).trans e1, hf⟩, ⟨cs, (Zp h2).trans e2, hc⟩, h.qp, h.cp, h.cq, h.nm⟩
theorem Hs.le {M : Mp} {p q c : Addr} {ls : List Str} {n m : Nat} (h : Hs M p q c ls n) (hm : n ≤ m) : Hs M p q c ls m := by
 obtain ⟨cs, e2, hc, h1, h2⟩ := h.h2
 exact ⟨h.h1, ⟨cs, e2, hc, h1, Nat.le_trans h2 hm⟩, h.qp, h.cp, h.cq, h.nm⟩
theorem GL {bs : List Str} {j : Int} (h0 : 0 ≤ j) (h1 : j ≤ bs.length) : DL.cutD (bs.map PyData.str) none (some j) = (bs.take j.toNat).map PyData.str := by
 unfold DL.cutD
 rw [Oa h0, HT.X2, List.drop_zero, List.length_map, Nat.sub_zero, ← List.map_take]
 congr 2
 omega
theorem ZaB {M : Mp} {wy : Int} {ls : List Str} {rows : List Ld} {ou : Str} {F : PyData → Prop} (hrg : ∀ l ∈ rows, Gd ls l) (hou : Ou ls ou) (k : ∀ ou, Ou ls ou → F (.str ou)) :
  if (!(rows.map ldD).isEmpty) = true then (if decide (wy < 2) = true then VN (rows.map ldD) (-1) fun d => onQ (.dat d) M fun ds => VN ds 0 fun d => F d else if decide (wy < 2) = true then F (.str (Str.ofString "")) else F (.str ou)) else if decide (wy < 2) = true then F (.str (Str.ofString "")) else F (.str ou) := by
 have tail : if decide (wy < 2) = true then F (.str (Str.ofString "")) else F (.str ou) := by
  split
  ·exact k _ (.inl rfl)
  ·exact k _ hou
 cases rows with
 | nil => exact tail
 | cons a r =>
  rw [if_pos (by rfl)]
  by_cases z : decide (wy < 2) = true
  ·rw [if_pos z]
   refine U7 (List.cons_ne_nil _ _) fun l hl => ?_
   exact k l.n (.inr (hrg l hl).1)
  ·rw [if_neg z]
   exact tail
def Bq (bs : List B4) : Prop := Shp bs ∧ ∀ b ∈ bs, Lim b
theorem Za3 {M : Mp} {w : Int} {ls : List Str} {rows : List Ld} {bs : List B4} {F : PyData → Prop} (hrg : ∀ l ∈ rows, Gd ls l) (hb : Bq bs) (k : ∀ bs, Bq bs → F (.tuple (bs.map bD))) :
  if (!(rows.map ldD).isEmpty) = true then (if decide (w = 0) = true then VN (rows.map ldD) (-1) fun d => onQ (.dat d) M fun ds => VN ds 2 fun d => F d else F (.tuple (bs.map bD))) else F (.tuple (bs.map bD)) := by
 cases rows with
 | nil => exact k bs hb
 | cons a r =>
  rw [if_pos (by rfl)]
  split
  ·refine U7 (List.cons_ne_nil _ _) fun l hl => ?_
   exact k l.bs ⟨(hrg l hl).2.2.1, (hrg l hl).2.2.2.1⟩
  ·exact k bs hb
theorem T3 {st : Int} (h : st = 1 ∨ st = 7 ∨ st = 11 ∨ st = 15) {k j : Nat} (hk : k < 20) (hj : j < 20) (e : Xu (st * (k : Int) % 26) = Xu (st * (j : Int) % 26)) : k = j := by
 have e2 : (97 + (st * (k : Int) % 26).toNat) = 97 + (st * (j : Int) % 26).toNat := by
  have := congrArg (fun s : Str => s.cps.toList) e
  exact (List.cons.inj this).1
 rcases h with rfl | rfl | rfl | rfl <;> omega
noncomputable def dnL (st : Int) (m : Nat) : List Str := (List.range m).map fun (k : Nat) => Xu (st * (k : Int) % 26)
theorem Rj (b : Int) (h : 0 ≤ b ∧ b < 26) : VU (Xu b) := by
 refine ⟨⟨Nat.le_refl 1, (by decide : (1 : Nat) ≤ 8)⟩, fun c hc => ?_⟩
 have : c = 97 + b.toNat := List.mem_singleton.mp hc
 omega
theorem Zbt {st : Int} (h : st = 1 ∨ st = 7 ∨ st = 11 ∨ st = 15) {m : Nat} (hm : m ≤ 20) : (dnL st m).length = m ∧ (dnL st m).Nodup ∧ ∀ s ∈ dnL st m, VU s := by
 refine ⟨by unfold dnL; rw [List.length_map, List.length_range], ?_, fun s hs => ?_⟩
 ·unfold dnL
  rw [List.nodup_iff_pairwise_ne, List.pairwise_map, List.pairwise_iff_getElem]
  intro i j hi hj hij e
  rw [List.getElem_range, List.getElem_range] at e
  rw [List.length_range] at hi hj
  exact absurd (T3 h (by omega) (by omega) e) (by omega)
 ·obtain ⟨k, hk, rfl⟩ := List.mem_map.mp hs
  exact Rj _ (W9 _ (by decide))
theorem Eg {st : Int} {m k : Nat} (hk : k < m) : (dnL st m)[k]? = some (Xu (st * (k : Int) % 26)) := by
 unfold dnL
 rw [List.getElem?_map, List.getElem?_range hk]
 rfl
theorem Rr {st : Int} {m k : Nat} (hk : k < m) {P : PyData → Prop} (h : P (.str (Xu (st * (k : Int) % 26)))) : VN ((dnL st m).map PyData.str) (k : Int) P := JW (J4 (by rw [List.getElem?_map, Eg hk]; rfl)) h
theorem O2 {c : Bool} {bs bs2 : List B4} {F : PyData → Prop} (h1 : Shp bs) (h2 : Shp bs2) (k : ∀ bs, Shp bs → F (.tuple (bs.map bD))) : VN [.tuple (bs.map bD), .tuple (bs2.map bD)] (if c = true then 1 else 0) F := by
 cases c
 ·exact k bs h1
 ·exact k bs2 h2
theorem ZfI (c : Bool) : 0 ≤ (if c = true then (1 : Int) else 0) := by cases c <;> decide
def Dr (ls : List Str) (l : Ld) : Prop := l.n ∈ ls ∧ Ou ls l.o ∧ Zbu l
theorem ZeR {bs : List B4} (h : Shp bs) {Q : PyData → Prop} (k : ∀ b ∈ bs, Q (bD b)) : VN (bs.map bD) 0 Q := by
 cases bs with
 | nil => exact absurd h.1 (by decide)
 | cons b r => exact k b List.mem_cons_self
noncomputable def ptD (x : Int × Int) : PyData := .tuple [.int x.1, .int x.2]
theorem P6 {α : Type} {a b d : α} {i : Nat} (h : [a, b][i]? = some d) : d = a ∨ d = b := by
 have := List.mem_of_getElem? h
 simpa using this
theorem Hl {α : Type} {a b c d : α} {i : Nat} (h : [a, b, c][i]? = some d) : d = a ∨ d = b ∨ d = c := by
 have := List.mem_of_getElem? h
 simpa using this
theorem pOu {ls : List Str} {s : Str} (h : Ou ls s) (k : ∀ s ∈ ls, VU s) : Pl 0 82 (.str s) := by
 rcases h with rfl | h
 ·exact (Zf0 "" (n := 0) (by decide +kernel)).le (Nat.le_refl _) (by decide)
 ·exact pNm (k s h)
theorem SH {ns : List Str} (hN : ∀ s ∈ ns, VU s) {ls : List Ld} (hl : ls.length ≤ 8) (h : ∀ l ∈ ls, Gd ns l) : Shw (.tuple (ls.map ldD)) := by
 refine (Pl.tup (Pls.all (k := 4) (n := 60000) (m := 8) (by rw [List.length_map]; exact hl) fun d hd => ?_)).od.shw (by decide) (by decide)
 obtain ⟨l, ml, rfl⟩ := List.mem_map.mp hd
 obtain ⟨h0, h1, h2, h3, h4⟩ := h l ml
 have hb : Pl 3 50000 (.tuple (l.bs.map bD)) := (Pl.tup (Pls.all (k := 2) (n := 7800) (m := 6) (by rw [List.length_map]; exact h2.2.1) fun d hd => by
  obtain ⟨b, mb, rfl⟩ := List.mem_map.mp hd
  have hL := h3 b mb
  unfold Lim at hL
  have p1 : Pl 1 3849 (.tuple [.int b.x, .int b.y]) := (Pl.tup (Pls.cons (ZbP (by omega)) (Pls.cons (ZbP (by omega)) Pls.nil))).le (by decide) (by decide)
  have p2 : Pl 1 3849 (.tuple [.int b.X, .int b.Y]) := (Pl.tup (Pls.cons (ZbP (by omega)) (Pls.cons (ZbP (by omega)) Pls.nil))).le (by decide) (by decide)
  exact (Pl.tup (Pls.cons p1 (Pls.cons p2 Pls.nil))).le (by decide) (by decide))).le (by decide) (by decide)
 exact (Pl.tup (Pls.cons (pNm (hN _ h0)) (Pls.cons (pOu h1 hN) (Pls.cons hb (Pls.cons (ZbP (by omega)) Pls.nil))))).le (by decide) (by decide)
local macro_rules | `(tactic| walk_at "rk") => `(tactic| try simp (config := { maxSteps := 10000000 }) only [↓NR, ↓NP, ↓LF, ↓NV, ↓Lp, ↓Ll, ↓Mu, ↓Mh, ↓Fx, ↓P1, ↓Sn, ↓SW, ↓O9, ↓Sk, ↓MR, ↓MZ, ↓Lx, ↓NU, ↓LC, ↓LO, ↓NC, ↓Lm, ↓LQ, ↓NB, ↓LG, ↓ZaO, ↓ZgD, ↓ZdQ, ↓ZeQ, ↓ZgG, ↓NS, ↓Zai, ↓ZdS, ↓Za2, ↓R9, ↓ZbD, ↓Tj, ↓Zad, ↓ZdD, ↓ZaZ, ↓ZbZ, ↓Rf, ↓Zay, ↓ZbJ, ↓SG, ↓ZaF, ↓Mf, ↓NJ, ↓H0, ↓NI, ↓ZaT, ↓ZeM, ↓Pt, ↓Tz, ↓Zaa, ↓B8, ↓LR, ↓CI, ↓L6, ↓Lz, ↓LH, ↓Zb4, ↓Zaz, ↓Tg, ↓EU, ↓SJ, ↓Zan, ↓Pc, ↓Za6, ↓TF, ↓T4, ↓ZbF, ↓ZY, ↓B5, ↓Ud, ↓LB, ↓Lh, ↓SF, ↓Tw, ↓Zc5, ↓Ec, ↓TB, ↓R4, ↓Lg, ↓MC, ↓RP, ↓FG, ↓ZcU, ↓Zbd, ↓RR, ↓NA, ↓La, ↓R7, ↓Zag, ↓Mv, ↓ZbQ, ↓Hw, ↓PY, ↓ZaS, ↓Dq, ↓Ng, ↓Mi, ↓NW, ↓Lq, ↓ZcV, ↓ND, ↓MX, ↓PQ, FZ, Ds, Mo, Ny, W5, VI, Dg, Zeq, Li, Zcd, NZ, OV, Og, ZaA, isNone_none, Gq, B0, Co, Ut, KS, UW,
 Option.bind_some, Option.bind_none, Option.join_some, Option.join_none, Option.getD_some, Option.map_some, Option.map_none, List.getElem?_cons_zero, List.getElem?_cons_succ, List.set_cons_zero, List.set_cons_succ, List.map_cons, List.map_nil, List.length_cons, List.length_nil, List.replicate, List.cons_append, List.nil_append, List.any_cons, List.any_nil,
 Zn, WD, ↓reduceIte, Bool.not_true, Bool.not_false, Bool.or_false, Bool.or_true, Bool.true_or, Bool.false_or, Bool.and_true, Bool.and_false, Bool.true_and, Bool.false_and, Bool.bne_true, Bool.bne_false, Bool.false_eq_true, eq_self, true_and, and_true, Zcx, ZcS, Zco, exists_eq_left', exists_eq_left, Option.some.injEq, Nat.reduceAdd, Nat.reduceSub, Nat.zero_add, Nat.reduceLT, Nat.reduceLeDiff, Int.reduceToNat, Int.reducePow, Int.reduceSub, Int.reduceMul, Int.reduceAdd, Int.reduceNeg,
 Int.reduceLT, Int.reduceLE, Int.reduceEq, Int.zero_add, Int.cast_ofNat_Int, decide_true, decide_false, sizeLine_eq, Fe, Ms, NY, Za8, ZdC, PX, Zej, Zd5, Tp, SN, UT, UG, CC, CN, GI, Wn, U8, KP, KQ, Gj, U1, KY, Ky, W0, X4, Kz, K4, Wv, KG, Y5, Kj, Wa, K6, U4, U3, KR, Kp, WW, Ug, Ub, CL, Cy, U2, K3, GD, WI, Wz, UI, Uj, KU, Kh, K1, ↓Nj, ↓L7, ↓Nv, ↓NG, Sx, Sw, ↓Sd, ↓SK, ↓UE, ↓Zck, ↓BZ, ↓Ct, ↓S6, ↓Np, ↓Fv, ↓Mm, ↓Td, ↓PN, ↓DB, ↓DZ, ↓P5, ↓Pf, ↓SD, ↓Nz, ↓FH, ↓DF, ↓HD, ↓Cf, ↓LI, ↓Sj, ↓RH, ↓Uy, ↓WL, ↓LA, ↓NN, ↓FW, ↓Mz, ↓Mt, ↓UO, ↓Si, ↓Ma, ↓R1, ↓Nc, ↓SQ, ↓CG, ↓Dk, ↓Ha, ↓C4, ↓Cw, ↓L0, ↓LX, Sq, ↓Fd, ↓ML, ↓Ra, ↓Hh, Zd1, ZgL, Zgx, ZfZ, ↓CB, ↓Cq, ↓HI, ↓Ee, ↓He, ↓Hy, ↓Fs, ↓CY, ↓NO, ↓Tt, ↓Lr, ↓GV, ↓Ye, ↓Tr, ↓Sb, ↓FP, ↓Hj, ↓Nm, ↓FC, ↓Ci, ↓Ln, ↓DU, ↓Di, ↓MW])
theorem Wy (T : Tx K mg) : ZT P w K mg base CX0 1 T.JZ T.JV ["box"] (lift K S7) := by
 refine okD T.Q7.F Wl (fun xs M Φ h => by obtain ⟨_, rfl, _⟩ := ZS h; rfl) fun cdv A outer s H E hr => ⟨_, (Zg (Zs (Yn (QW UC (Zh (Zh (Zb 0) Zc) Zc) (Zh (Zh (Zb 0) Zc) Zc)) (YG (QW UC (Zh (Zh (Zb 0) Zc) Zc) (Zh (Zh (Zb 0) Zc) Zc)))))), fun xs M Φ h => ?_⟩
 replace h := ZS h
 obtain ⟨x1, rfl, h⟩ := h
 replace h := Jn h
 obtain ⟨b, rfl, h⟩ := h
 walk_at "rk"
 refine Zz (fun h1 => ?_) (fun h1 => ?_)
 ·unfold okB at h
  simpa [h1] using h
 ·unfold okB at h
  simpa [h1] using h
theorem Zb2 (T : Tx K mg) : ZT P w K mg base CX0 1 T.Pw T.SR ["one", "other", "way"] (lift K R5) := by
 refine okD T.Ux.F Zcf (fun xs M Φ h => by obtain ⟨_, _, _, rfl, _⟩ := Qn h; rfl) fun cdv A outer s H E hr => ⟨_, (Zg (Zs (Zm (SY rfl) rfl T.HZ Bk (Za Zc (Za (Zo Z9 (Zh (Zh (Zb 1) Zc) (Zb 2)) (Zh (Zh (Zb 0) Zc) (Zb 2))) (Za (Zo Z9 (Zh (Zh (Zb 0) Zc) (Zb 2)) (Zh (Zh (Zb 1) Zc) (Zb 2))) Zd)))))), fun xs M Φ h => ?_⟩
 replace h := Qn h
 obtain ⟨x1, x2, x3, rfl, h⟩ := h
 replace h := Jn h
 obtain ⟨a, rfl, h⟩ := h
 replace h := Jn h
 obtain ⟨b, rfl, h⟩ := h
 replace h := ZM h
 obtain ⟨i, rfl, hi, h⟩ := h
 rcases hi with rfl | rfl
 ·walk_at "rk"
  exact h
 ·walk_at "rk"
  exact h
theorem Jj (T : Tx K mg) : ZT P w K mg base CX0 2 T.Qo T.Qj ["one", "other"] (lift K Vk) := by
 have G_gap : ZT P w K mg base CX0 1 T.Pw T.SR ["one", "other", "way"] (lift K R5) := Zb2 T
 refine okD T.ZR.F VX (fun xs M Φ h => by obtain ⟨_, _, rfl, _⟩ := ZL h; rfl) fun cdv A outer s H E hr => ⟨_, (Zg (Zs (Zm (Ul rfl) rfl T.HZ Bk (Za (Zi G_gap (hr.mono (by first | decide | omega)) rfl T.Ux.m T.Ux.F.kp T.Ux.b Zx (Za (Zb 0) (Za (Zb 1) (Za Zc Zd)))) (Za (Zi G_gap (hr.mono (by first | decide | omega)) rfl T.Ux.m T.Ux.F.kp T.Ux.b Zx (Za (Zb 0) (Za (Zb 1) (Za Zc Zd)))) Zd))))), fun xs M Φ h => ?_⟩
 replace h := ZL h
 obtain ⟨x1, x2, rfl, h⟩ := h
 replace h := Jn h
 obtain ⟨a, rfl, h⟩ := h
 replace h := Jn h
 obtain ⟨b, rfl, h⟩ := h
 walk_at "rk"
 exact ⟨.inl trivial, .inr trivial, h⟩
theorem U0 (T : Tx K mg) : ZT P w K mg base CX0 3 T.Vr T.VC ["box", "spot"] (lift K ZdB) := by
 have G_steps_between : ZT P w K mg base CX0 2 T.Qo T.Qj ["one", "other"] (lift K Vk) := Jj T
 refine okD T.JG.F Gn (fun xs M Φ h => by obtain ⟨_, _, rfl, _⟩ := ZL h; rfl) fun cdv A outer s H E hr => ⟨_, (Zg (Zs (Zi G_steps_between (hr.mono (by first | decide | omega)) rfl T.ZR.m T.ZR.F.kp T.ZR.b Zx (Za (Zb 0) (Za (ZH (Za (Zb 1) (Za (Zb 1) Zd))) Zd))))), fun xs M Φ h => ?_⟩
 replace h := ZL h
 obtain ⟨x1, x2, rfl, h⟩ := h
 replace h := Jn h
 obtain ⟨a, rfl, h⟩ := h
 replace h := JU h
 obtain ⟨u, v, rfl, h⟩ := h
 walk_at "rk"
 exact h
theorem DJ (T : Tx K mg) : ZT P w K mg base CX0 1 T.XA T.Kk ["one", "other"] (lift K XY) := by
 refine okD T.V6.F Yh (fun xs M Φ h => by obtain ⟨_, _, rfl, _⟩ := ZL h; rfl) fun cdv A outer s H E hr => ⟨_, (Ze (Zk 2 Yh.nd (ZH (Za (Zm (Ul rfl) rfl T.HZ Bk (Za (Zh (Zh (Zb 0) Zc) Zc) (Za (Zh (Zh (Zb 1) Zc) Zc) Zd))) (Za (Zm (Ul rfl) rfl T.HZ Bk (Za (Zh (Zh (Zb 0) Zc) Zc) (Za (Zh (Zh (Zb 1) Zc) Zc) Zd))) Zd))))
 (Ze (Zk 3 Yh.nd (ZH (Za (Zm (E2 rfl) rfl T.SA EV (Za (Zh (Zh (Zb 0) Zc) Zc) (Za (Zh (Zh (Zb 1) Zc) Zc) Zd))) (Za (Zm (E2 rfl) rfl T.SA EV (Za (Zh (Zh (Zb 0) Zc) Zc) (Za (Zh (Zh (Zb 1) Zc) Zc) Zd))) Zd))))
 (Zg (Zs (ZH (Za (Zb 2) (Za (Zb 3) Zd))))))), fun xs M Φ h => ?_⟩
 replace h := ZL h
 obtain ⟨x1, x2, rfl, h⟩ := h
 replace h := Jn h
 obtain ⟨a, rfl, h⟩ := h
 replace h := Jn h
 obtain ⟨b, rfl, h⟩ := h
 walk_at "hd"
 walk_at "rk"
 walk_at "hd"
 walk_at "rk"
 subst_vars
 walk_at "rk"
 exact h
theorem Ca (T : Tx K mg) : ZT P w K mg base CX0 3 T.YM T.YD ["one", "other"] (lift K Sf) := by
 have G_common : ZT P w K mg base CX0 1 T.XA T.Kk ["one", "other"] (lift K XY) := DJ T
 have G_steps_between : ZT P w K mg base CX0 2 T.Qo T.Qj ["one", "other"] (lift K Vk) := Jj T
 have G_has_spots : ZT P w K mg base CX0 1 T.JZ T.JV ["box"] (lift K S7) := Wy T
 refine okD T.Vm.F QI (fun xs M Φ h => by obtain ⟨_, _, rfl, _⟩ := ZL h; rfl) fun cdv A outer s H E hr => ⟨_, (Ze (Qm (ZN Fi (Zi G_steps_between (hr.mono (by first | decide | omega)) rfl T.ZR.m T.ZR.F.kp T.ZR.b Zx (Za (Zb 0) (Za (Zb 1) Zd))) Zc) (Zg (Zs (Qg (Za (Zb 0) Zd)))) ZI)
 (Ze (Zk 2 QI.nd (Zi G_common (hr.mono (by first | decide | omega)) rfl T.V6.m T.V6.F.kp T.V6.b Zx (Za (Zb 0) (Za (Zb 1) Zd))))
 (Ze (Zk 3 QI.nd (ZH (Za (Zh (Zb 0) Zc) (Za (ZH (Za (Zo Z9 (Zh (Zh (Zb 2) Zc) Zc) Zc) (Za (Zh (Zh (Zb 0) Zc) Zc) Zd))) Zd))))
 (Ze (Zk 4 QI.nd (ZH (Za (ZH (Za (Zo ZJ (Zh (Zh (Zb 2) Zc) Zc) Zc) (Za (Zh (Zh (Zb 0) Zc) Zc) Zd))) (Za (Zh (Zb 0) Zc) Zd))))
 (Ze (Zk 5 QI.nd (ZH (Za (ZH (Za (Zh (Zh (Zb 2) Zc) Zc) (Za (Zh (Zh (Zb 0) Zc) Zc) Zd))) (Za (ZH (Za (Zh (Zh (Zb 2) Zc) Zc) (Za (Zo Z9 (Zh (Zh (Zb 2) Zc) Zc) Zc) Zd))) Zd))))
 (Ze (Zk 6 QI.nd (ZH (Za (ZH (Za (Zh (Zh (Zb 2) Zc) Zc) (Za (Zo ZJ (Zh (Zh (Zb 2) Zc) Zc) Zc) Zd))) (Za (ZH (Za (Zh (Zh (Zb 2) Zc) Zc) (Za (Zh (Zh (Zb 0) Zc) Zc) Zd))) Zd))))
 (Zg (Zs (Qc true (Zy (sc := Zf QO) (XN := ["one", "other", "middle", "left", "right", "below", "above"]) (N := ["piece"]) (ix := [none]) rfl rfl (by decide +kernel)) (Q6 (Qf (Za (Zb 3) (Za (Zb 4) (Za (Zb 5) (Za (Zb 6) Zd)))))) (fun C ex s H => (Zl 0 (show List.Nodup (["piece"] : List Str) by decide +kernel))) (fun C ex s H => (Xw (Vj (Zi G_has_spots (hr.mono (by first | decide | omega)) rfl T.Q7.m T.Q7.F.kp T.Q7.b Zx (Za (Zb 0) Zd))))) (fun C ex s H => (Zb 0)) rfl))))))))), fun xs M Φ h => ?_⟩
 replace h := ZL h
 obtain ⟨x1, x2, rfl, h⟩ := h
 replace h := Jn h
 obtain ⟨a, rfl, h⟩ := h
 replace h := Jn h
 obtain ⟨b, rfl, h⟩ := h
 walk_at "hd"
 walk_at "rk"
 refine Zz (fun hk => ?_) (fun hk => ?_)
 ·intro p hp
  have h' := h p hp
  rw [show Y4 a b = [a] from if_pos hk] at h'
  exact h'
 ·have ec : Y4 a b = (CP a b).filter okB := if_neg hk
  walk_at "hd"
  walk_at "rk"
  walk_at "hd"
  walk_at "rk"
  walk_at "hd"
  walk_at "rk"
  walk_at "hd"
  walk_at "rk"
  walk_at "hd"
  walk_at "rk"
  subst_vars
  walk_at "rk"
  refine ⟨fun i acc M' => acc = (((CP a b).take i).filter okB).map bD ∧ M' = M, ⟨rfl, rfl⟩, ?_, ?_⟩
  ·rintro i d acc M' hd ⟨rfl, rfl⟩
   have hd' : ((CP a b).map bD)[i]? = some d := hd
   obtain ⟨q, eq, rfl⟩ := ZF hd'
   walk_at "rk"
   rw [GC okB eq, List.map_append]
   cases okB q with
   | true => rfl
   | false => simp
  ·rintro acc M' ⟨rfl, rfl⟩
   rw [ec] at h
   exact h
theorem Wk (T : Tx K mg) : ZT P w K mg base CX0 4 T.J3 T.Va ["box", "others"] (lift K D9) := by
 have G_cut_out : ZT P w K mg base CX0 3 T.YM T.YD ["one", "other"] (lift K Sf) := Ca T
 refine okD T.Ja.F Qi (fun xs M Φ h => by obtain ⟨_, _, rfl, _⟩ := ZL h; rfl) fun cdv A outer s H E hr => ⟨_, (Ze (Zk 2 Qi.nd (Qf (Za (Zb 0) Zd)))
 (Ze (Gg (Zb 1) (Zl 3 Qi.nd) (Ze (Zk 4 Qi.nd (Qg Zd))
 (Ze (Vs (Zb 2) (Zl 5 Qi.nd) (Zg (QL (YV (Zb 4) (Zi G_cut_out (hr.mono (by first | decide | omega)) rfl T.Vm.m T.Vm.F.kp T.Vm.b Zx (Za (Zb 5) (Za (Zb 3) Zd)))))) PassesOwn.never rfl)
 (Zg (Zk 2 Qi.nd (BL (Zb 4)))))) PassesOwn.never rfl)
 (Zg (Zs (Zb 2))))), fun xs M Φ h => ?_⟩
 replace h := ZL h
 obtain ⟨x1, x2, rfl, h⟩ := h
 replace h := Jn h
 obtain ⟨a, rfl, h⟩ := h
 replace h := YL h
 obtain ⟨bs, rfl, hl, h⟩ := h
 walk_at "hd"
 walk_at "rk"
 walk_at "hd"
 walk_at "rk"
 refine ⟨fun i Δ M' => ∃ k3 k4 k5, Δ = [some (.dat (bD a)), some (.dat (.tuple (bs.map bD))), some (.dat (.list ((Q8 a (bs.take i)).map bD))), k3, k4, k5] ∧ M' = M, ⟨none, none, none, rfl, rfl⟩, ?_, ?_⟩
 ·rintro i d Δ M' hd ⟨k3, k4, k5, rfl, rfl⟩
  obtain ⟨b, eb, rfl⟩ := ZF hd
  have len := Fu a (bs.take i) (by rw [List.length_take]; omega)
  walk_at "rk"
  intro q hq
  refine ⟨fun j Δ M2 => ∃ k5, Δ = [some (.dat (bD a)), some (.dat (.tuple (bs.map bD))), some (.dat (.list ((Q8 a (bs.take i)).map bD))), some (.dat (bD b)), some (.own q), k5] ∧ M2 = Zv M' q (.lst ((((Q8 a (bs.take i)).take j).flatMap fun p => Y4 p b).map bD)), ⟨k5, rfl, rfl⟩, ?_, ?_⟩
  ·rintro j d Δ M2 hd2 ⟨k5, rfl, rfl⟩
   obtain ⟨p, ep, rfl⟩ := ZF hd2
   walk_at "rk"
   intro c hc
   have hne := fresh_ne hc
   simp only [Zp (Ne.symm hne)]
   walk_at "rk"
   refine ⟨hne, ?_, _, rfl, ?_⟩
   ·have h1 := V4 (fun p => Y4 p b) 4 ((Q8 a (bs.take i)).take j) fun p _ => Xz p b
    have h2 := Xz p b
    rw [List.length_take] at h1
    rw [List.length_map, List.length_map]
    omega
   ·rw [Fw hc, ← List.map_append, WR (fun p => Y4 p b) ep]
  ·rintro Δ M2 ⟨k5, rfl, rfl⟩
   rw [List.length_map, List.take_length]
   walk_at "rk"
   exact ⟨_, _, _, by rw [CM eb], Q3 hq⟩
 ·rintro Δ M' ⟨k3, k4, k5, rfl, rfl⟩
  rw [List.length_map, List.take_length]
  subst_vars
  walk_at "rk"
  exact h
theorem CS (T : Tx K mg) : ZT P w K mg base CX0 1 T.Ki T.XX ["spot", "r"] (lift K XW) := by
 refine okD T.V3.F E6 (fun xs M Φ h => by obtain ⟨_, _, rfl, _⟩ := ZL h; rfl) fun cdv A outer s H E hr => ⟨_, (Zg (Zs (ZH (Za (ZH (Za (Zo Z9 (Zh (Zb 0) Zc) (Zb 1)) (Za (Zo Z9 (Zh (Zb 0) Zc) (Zb 1)) Zd))) (Za (ZH (Za (Zo ZJ (Zh (Zb 0) Zc) (Zb 1)) (Za (Zo ZJ (Zh (Zb 0) Zc) (Zb 1)) Zd))) Zd))))), fun xs M Φ h => ?_⟩
 replace h := ZL h
 obtain ⟨x1, x2, rfl, h⟩ := h
 replace h := JU h
 obtain ⟨u, v, rfl, h⟩ := h
 replace h := ZM h
 obtain ⟨r, rfl, h⟩ := h
 walk_at "rk"
 exact h
theorem KH (T : Tx K mg) : ZT P w K mg base CX0 4 T.Jx T.Jq ["pieces", "spot"] (lift K U9) := by
 have G_steps_to : ZT P w K mg base CX0 3 T.Vr T.VC ["box", "spot"] (lift K ZdB) := U0 T
 refine okD T.QU.F KA (fun xs M Φ h => by obtain ⟨_, _, rfl, _⟩ := ZL h; rfl) fun cdv A outer s H E hr => ⟨_, (Zg (Zs (Zm (Po rfl) rfl T.SA EV (Za (Qc false (Zy (sc := Zf Z4) (XN := ["pieces", "spot"]) (N := ["piece", "spot"]) (ix := [none, some 1]) rfl rfl (by decide +kernel)) (Yk (Zb 0)) (fun C ex s H => (Zl 0 (show List.Nodup (["piece", "spot"] : List Str) by decide +kernel))) (fun C ex s H => Z6) (fun C ex s H => (Zi G_steps_to (hr.mono (by first | decide | omega)) rfl T.JG.m T.JG.F.kp T.JG.b Zx (Za (Zb 0) (Za (Zb 1) Zd)))) rfl) Zd)))), fun xs M Φ h => ?_⟩
 replace h := ZL h
 obtain ⟨x1, x2, rfl, h⟩ := h
 replace h := YL h
 obtain ⟨ps, rfl, h⟩ := h
 replace h := JU h
 obtain ⟨u, v, rfl, ⟨h1, h2⟩, h⟩ := h
 walk_at "rk"
 refine ⟨by rw [List.length_map]; omega, fun i acc M' => acc = ((ps.take i).map fun p => Qv p u v).map PyData.int ∧ M' = M, ⟨rfl, rfl⟩, ?_, ?_⟩
 ·rintro i d acc M' hd ⟨rfl, rfl⟩
  obtain ⟨b, eb, rfl⟩ := ZF hd
  walk_at "rk"
  rw [← take_snoc _ eb, List.map_append]
  rfl
 ·rintro acc M1 ⟨rfl, rfl⟩
  rw [List.length_map, List.take_length]
  have hl : 0 < ps.length := List.length_pos_iff.mpr h1
  refine ⟨_, .inl rfl, by rw [List.length_map]; exact hl, fun m hm hn => h m ?_ fun p hp => hn _ (List.mem_map.mpr ⟨p, hp, rfl⟩)⟩
  obtain ⟨p, mp, e⟩ := List.mem_map.mp hm
  exact ⟨p, mp, e⟩
theorem PF (T : Tx K mg) : ZT P w K mg base CX0 5 T.Dh T.FI ["shape", "wobble", "spot"] (lift K De) := by
 have G_left_over : ZT P w K mg base CX0 4 T.J3 T.Va ["box", "others"] (lift K D9) := Wk T
 have G_steps_away : ZT P w K mg base CX0 4 T.Jx T.Jq ["pieces", "spot"] (lift K U9) := KH T
 have G_square : ZT P w K mg base CX0 1 T.Ki T.XX ["spot", "r"] (lift K XW) := CS T
 refine okD T.Bu.F Py (fun xs M Φ h => by obtain ⟨_, _, _, rfl, _⟩ := Qn h; rfl) fun cdv A outer s H E hr => ⟨_, (Ze (Qm (ZN (Q5 hr) (Zi G_left_over (hr.mono (by first | decide | omega)) rfl T.Ja.m T.Ja.F.kp T.Ja.b Zx (Za (Zi G_square (hr.mono (by first | decide | omega)) rfl T.V3.m T.V3.F.kp T.V3.b Zx (Za (Zb 2) (Za (Zb 1) Zd))) (Za (Zb 0) Zd))) (Qf Zd)) (Zg (Zs ZE)) ZI)
 (Ze (Qm (ZN Fi (Zi G_steps_away (hr.mono (by first | decide | omega)) rfl T.QU.m T.QU.F.kp T.QU.b Zx (Za (Zb 0) (Za (Zb 2) Zd))) (Zb 1)) (Zg (Zs ZE)) ZI)
 (Zg (Zs ZE)))), fun xs M Φ h => ?_⟩
 replace h := Qn h
 obtain ⟨x1, x2, x3, rfl, h⟩ := h
 replace h := YL h
 obtain ⟨bs, rfl, h⟩ := h
 replace h := ZM h
 obtain ⟨wb, rfl, h⟩ := h
 replace h := JU h
 obtain ⟨u, v, rfl, ⟨hs, hw⟩, h⟩ := h
 have n1 : bs ≠ [] := fun z => by have := hs.1; rw [z] at this; exact absurd this (by decide)
 obtain ⟨d, hd⟩ := ZcJ hs.2.2 n1 u v
 have h := h d hd
 unfold W8 at h
 walk_at "hd"
 walk_at "rk"
 refine ⟨hs.2.1, P9 _ ?_⟩
 refine Zz (fun q => ?_) fun q => ?_
 ·rw [if_pos ((ED hs.2.2 hw hd).mp q)] at h
  exact h
 ·rw [if_neg (fun z => q ((ED hs.2.2 hw hd).mpr z))] at h
  subst_vars
  walk_at "rk"
  refine ⟨⟨n1, by have := hs.2.1; omega⟩, fun m m1 m2 => ?_⟩
  have k := Nf hs.2.2 n1 hw hd m1 m2
  refine Zz (fun z => ?_) fun z => ?_
  ·rw [if_pos (k.mp z)] at h
   exact h
  ·rw [if_neg (fun y => z (k.mpr y))] at h
   exact h
theorem Lj (T : Tx K mg) : ZT P w K mg base CX0 1 T.GA T.U5 ["lands", "land"] (lift K Ui) := by
 refine okG T.Xt.F Vq (fun xs M Φ h => by obtain ⟨_, _, rfl, _⟩ := ZL h; rfl) fun cdv A outer s H E hr => ⟨_, (Ze (Zk 2 Vq.nd (Z5 (BC rfl) rfl T.OE EY (Za (Qc false (Zy (sc := Zf Vb) (XN := ["lands", "land", "outers", "at", "many"]) (N := ["row"]) (ix := [none]) rfl rfl (by decide +kernel)) (Yk (Zb 0)) (fun C ex s H => (Zl 0 (show List.Nodup (["row"] : List Str) by decide +kernel))) (fun C ex s H => Z6) (fun C ex s H => (ZH (Za (Zh (Zb 0) Zc) (Za (Zh (Zb 0) Zc) Zd)))) rfl) Zd)))
 (Ze (Zk 3 Vq.nd (Zb 1))
 (Ze (BD rfl T.Qw (Za Zc (Za (Zo ZJ (Zm Rk rfl T.Y0 JO (Za (Zb 2) Zd)) Zc) Zd)) (Zl 4 Vq.nd) (Ze (Qm (ZN (E3 hr) (Zb 3) (Zb 2)) (Zg (Zs WO)) ZI)
 (Ze (Zk 3 Vq.nd ((Fb hr) (Zb 2) (Zb 3)))
 (Zg (Qm (ZN (Q5 hr) (Zb 3) ZE) (Zg (Zs (Zb 4))) ZI)))) PassesOwn.never rfl)
 (Zg (Zs WO))))), fun xs M Φ h => ?_⟩
 replace h := ZL h
 obtain ⟨x1, x2, rfl, h⟩ := h
 obtain ⟨rs, rfl, h⟩ := h
 replace h := Jm h
 obtain ⟨s, rfl, ⟨hl, hn⟩, h⟩ := h
 walk_at "hd"
 walk_at "rk"
 refine ⟨by rw [List.length_map]; omega, fun i acc M' => acc = ((prs rs).take i).map DL.pairD ∧ M' = M, ⟨rfl, rfl⟩, ?_, ?_⟩
 ·rintro i d acc M' hd ⟨rfl, rfl⟩
  obtain ⟨r, er, rfl⟩ := ZF hd
  unfold Zdk
  walk_at "rk"
  have er' : (prs rs)[i]? = some (r.n, .str r.o) := by unfold prs; rw [List.getElem?_map, er]; rfl
  rw [← take_snoc _ er']
  rfl
 ·rintro acc M' ⟨rfl, rfl⟩
  have e1 : (rs.map Zdk).length = (prs rs).length := by unfold prs; rw [List.length_map, List.length_map]
  rw [e1, List.take_length]
  refine ⟨prs rs, rfl, fun p hp => ?_⟩
  rw [Mj hn]
  walk_at "hd"
  walk_at "rk"
  walk_at "hd"
  walk_at "rk"
  have dl : (rs.map fun r => ((Sum.inr r.n : Key), PyData.str r.o)).length = rs.length := List.length_map ..
  rw [dl]
  refine ⟨⟨⟨by decide, by decide⟩, by omega, by omega⟩, fun i Δ M2 => ∃ (t : Str) (k4 : Option DV), Δ = [some (.dat (.tuple (rs.map Zdk))), some (.dat (.str s)), some (.own p), some (.dat (.str t)), k4] ∧ M2 = Zv M' p (.dkv (rs.map fun r => ((Sum.inr r.n : Key), PyData.str r.o))) ∧ lev rs rs.length s = (lev rs (rs.length - i) t).map (· + i),
   ⟨s, none, rfl, rfl, by simp⟩, ?_, ?_⟩
  ·rintro i Δ M2 hi ⟨t, k4, rfl, rfl, he⟩
   have hi' : i < rs.length := by omega
   obtain ⟨m, em⟩ : ∃ m, rs.length - i = m + 1 := ⟨rs.length - i - 1, by omega⟩
   rw [em] at he
   rw [ZY]
   walk_at "hd"
   walk_at "rk"
   rw [BB]
   cases q : XI rs t with
   | none =>
    have e0 : Xv rs s = .none := by
     unfold Xv
     rw [he]
     unfold lev
     rw [q]
     rfl
    rw [e0] at h
    exact Hr hp h
   | some o =>
    rw [if_neg (show ¬ (!(Option.map PyData.str (some o)).isSome) = true by simp)]
    walk_at "hd"
    walk_at "rk"
    rw [BB, q]
    refine ⟨_, rfl, ?_⟩
    subst_vars
    walk_at "rk"
    refine Zz (fun z => ?_) fun z => ?_
    ·have e0 : Xv rs s = .int (1 + (i : Int)) := by
      unfold Xv
      rw [he]
      unfold lev
      rw [q]
      dsimp only
      rw [if_pos z]
      show PyData.int ((1 + i : Nat) : Int) = _
      rw [Int.natCast_add]
      rfl
     rw [e0] at h
     exact Hr hp h
    ·refine ⟨o, _, rfl, ?_⟩
     rw [he, show rs.length - (i + 1) = m by omega]
     conv => lhs; unfold lev
     rw [q]
     dsimp only
     rw [if_neg z, Option.map_map]
     congr 1
     funext x
     show x + 1 + i = x + (i + 1)
     omega
  ·rintro Δ M2 ⟨t, k4, rfl, rfl, he⟩
   have he' : lev rs rs.length s = none := by
    rw [he, show rs.length - (↑rs.length + 1 - 1 : Int).toNat = 0 by omega]
    rfl
   subst_vars
   walk_at "rk"
   have e0 : Xv rs s = .none := by
    unfold Xv
    rw [he']
   rw [e0] at h
   exact Hr hp h
theorem MO (T : Tx K mg) : ZT P w K mg base CX0 6 T.Uk T.GB ["row", "held", "spot"] (lift K UU) := by
 have G_side : ZT P w K mg base CX0 5 T.Dh T.FI ["shape", "wobble", "spot"] (lift K De) := PF T
 refine okD T.X3.F GW (fun xs M Φ h => by obtain ⟨_, _, _, rfl, _⟩ := Qn h; rfl) fun cdv A outer s H E hr => ⟨_, (Ze (Zk 3 GW.nd (Zi G_side (hr.mono (by first | decide | omega)) rfl T.Bu.m T.Bu.F.kp T.Bu.b Zx (Za (Zh (Zb 0) Zc) (Za (Zh (Zb 0) Zc) (Za (Zb 2) Zd)))))
 (Zg (Zs (Zeh (QW (Q5 hr) (Zb 3) ZE) (YG (Yn (QW (Q5 hr) (Zb 3) ZE) (YG (QW (Zbi hr) (Zh (Zb 0) Zc) (Zb 1))))))))), fun xs M Φ h => ?_⟩
 replace h := Qn h
 obtain ⟨x1, x2, x3, rfl, h⟩ := h
 obtain ⟨l, rfl, ss, rfl, h⟩ := h
 replace h := JU h
 obtain ⟨u, v, rfl, ⟨ok, h1, h2⟩, h⟩ := h
 unfold ldD
 walk_at "hd"
 walk_at "rk"
 refine ⟨ok, fun d hd => ?_⟩
 have e := P8 ok.2 hd
 unfold Ws at h
 rw [← e] at h
 subst_vars
 walk_at "rk"
 obtain ⟨a, b⟩ := Km (s := l.n) (ss := ss) fun t ht => by
  rcases List.mem_cons.mp ht with rfl | ht
  ·exact h1
  ·exact h2 t ht
 rw [a, b]
 by_cases z : W8 d l.wb = Str.ofString "in"
 ·rw [decide_eq_true z, Bool.true_or] at h
  rw [decide_eq_true z, if_pos rfl]
  exact h
 ·rw [decide_eq_false z, Bool.false_or] at h
  rw [decide_eq_false z, if_neg Bool.false_ne_true]
  by_cases z' : W8 d l.wb = Str.ofString "between"
  ·rw [decide_eq_true z', Bool.true_and] at h
   rw [decide_eq_true z', if_pos rfl]
   exact ⟨rfl, h⟩
  ·rw [decide_eq_false z', Bool.false_and] at h
   rw [decide_eq_false z', if_neg Bool.false_ne_true]
   exact h
theorem Y3 (T : Tx K mg) : ZT P w K mg base CX0 2 T.Jf T.Jb ["lands"] (lift K UZ) := by
 have G_level : ZT P w K mg base CX0 1 T.GA T.U5 ["lands", "land"] (lift K Ui) := Lj T
 refine okD T.QE.F JP (fun xs M Φ h => by obtain ⟨_, rfl, _⟩ := ZS h; rfl) fun cdv A outer s H E hr => ⟨_, (Ze (Uw 1 false JP.nd (Zy (sc := Zf ZO) (XN := ["lands", "ranked"]) (N := ["row", "lands"]) (ix := [none, some 0]) rfl rfl (by decide +kernel)) (Yk (Zb 0)) (fun C ex s H => (Zl 0 (show List.Nodup (["row", "lands"] : List Str) by decide +kernel))) (fun C ex s H => Z6) (fun C ex s H => (ZH (Za (Zi G_level (hr.mono (by first | decide | omega)) rfl T.Xt.m T.Xt.F.kp T.Xt.b Zx (Za (Zb 1) (Za (Zh (Zb 0) Zc) Zd))) (Za (Zb 0) Zd)))) rfl)
 (Zg (Zs (Qc false (Zy (sc := Zf ZO) (XN := ["lands", "ranked"]) (N := ["pair"]) (ix := [none]) rfl rfl (by decide +kernel)) (Q6 (Zm (CD hr) rfl T.QB Ql (Za (Qc false (Zy (sc := Zf ZO) (XN := ["lands", "ranked"]) (N := ["pair"]) (ix := [none]) rfl rfl (by decide +kernel)) (Q6 (Zb 1)) (fun C ex s H => (Zl 0 (show List.Nodup (["pair"] : List Str) by decide +kernel))) (fun C ex s H => (Xw (ZN Rb (Zh (Zb 0) Zc) WO))) (fun C ex s H => (Zb 0)) rfl) Zd))) (fun C ex s H => (Zl 0 (show List.Nodup (["pair"] : List Str) by decide +kernel))) (fun C ex s H => Z6) (fun C ex s H => (Zh (Zb 0) Zc)) rfl)))), fun xs M Φ h => ?_⟩
 replace h := ZS h
 obtain ⟨x1, rfl, h⟩ := h
 obtain ⟨ls, rfl, ho, h⟩ := h
 have len := List.length_map (as := ls) ldD
 have l8 := ho.1
 walk_at "hd"
 walk_at "rk"
 refine ⟨by omega, fun i acc M' => acc = (ls.take i).map (fun l => .tuple [Xv (ls.map ldR) l.n, ldD l]) ∧ M' = M, ⟨rfl, rfl⟩, ?_, ?_⟩
 ·rintro i d acc M' hd ⟨rfl, rfl⟩
  obtain ⟨l, el, rfl⟩ := ZF hd
  unfold ldD
  walk_at "rk"
  refine ⟨ls.map ldR, by rw [List.map_map]; rfl, ?_⟩
  walk_at "rk"
  refine ⟨⟨by rw [List.length_map]; omega, ho.NX⟩, ?_⟩
  rw [← take_snoc _ el]
 ·rintro acc M' ⟨rfl, rfl⟩
  rw [len, List.take_length]
  have len2 := List.length_map (as := ls) (fun l => PyData.tuple [Xv (ls.map ldR) l.n, ldD l])
  subst_vars
  walk_at "rk"
  refine ⟨by omega, fun i acc M2 => acc = ((ls.take i).filter (Ba ls)).map (pr1 ls) ∧ M2 = M', ⟨rfl, rfl⟩, ?_, ?_⟩
  ·rintro i d acc M2 hd ⟨rfl, rfl⟩
   obtain ⟨l, el, rfl⟩ := ZF hd
   have e : ls.take (i + 1) = ls.take i ++ [l] := by rw [List.take_succ, el]; rfl
   rcases KW ls l with ⟨z, e2⟩ | ⟨z, e2⟩
   ·rw [e2]
    walk_at "rk"
    rw [e, List.filter_append, List.filter_cons_of_pos z, List.filter_nil, List.map_append]
    rfl
   ·rw [e2]
    walk_at "rk"
    rw [e, List.filter_append, List.filter_cons_of_neg (by rw [z]; exact Bool.false_ne_true), List.filter_nil, List.append_nil]
  ·rintro acc M2 ⟨rfl, rfl⟩
   rw [len2, List.take_length]
   have fl := List.length_filter_le (Ba ls) ls
   walk_at "rk"
   refine ⟨(ls.filter (Ba ls)).map fun l => (lvN ls l, l.n), by rw [List.map_map, List.map_map]; rfl, ?_, by rw [List.length_map]; omega, fun ds' hp hs => ?_⟩
   ·rw [List.nodup_iff_pairwise_ne, List.pairwise_map]
    exact (ho.2.2.filter _).imp fun {a b} hab e => absurd hab (by rw [show a.n = b.n from (Prod.ext_iff.mp e).2]; exact List.lt_irrefl _)
   ·obtain ⟨ls', rfl, hO⟩ := RI hp hs
    have len3 := List.length_map (as := ls') (pr1 ls)
    have := hO.len
    refine ⟨by omega, fun i acc M3 => acc = (ls'.take i).map ldD ∧ M3 = M2, ⟨rfl, rfl⟩, ?_, ?_⟩
    ·rintro i d acc M2 hd ⟨rfl, rfl⟩
     obtain ⟨l, el, rfl⟩ := ZF hd
     unfold pr1
     walk_at "rk"
     rw [← take_snoc _ el]
    ·rintro acc M3 ⟨rfl, rfl⟩
     rw [len3, List.take_length]
     exact h ls' hO
theorem Dd (T : Tx K mg) : ZT P w K mg base CX0 7 T.Kv T.Kn ["lands", "held", "spot"] (lift K X7) := by
 have G_outer_first : ZT P w K mg base CX0 2 T.Jf T.Jb ["lands"] (lift K UZ) := Y3 T
 have G_keeps : ZT P w K mg base CX0 6 T.Uk T.GB ["row", "held", "spot"] (lift K UU) := MO T
 refine okG T.VY.F YW (fun xs M Φ h => by obtain ⟨_, _, _, rfl, _⟩ := Qn h; rfl) fun cdv A outer s H E hr => ⟨_, (Ze (Zk 3 YW.nd (Qg Zd))
 (Ze (Vs (Zi G_outer_first (hr.mono (by first | decide | omega)) rfl T.QE.m T.QE.F.kp T.QE.b Zx (Za (Zb 0) Zd)) (Zl 4 YW.nd) (Zg (Qm (DW.dt (WY (DW.dt (EJ (ZN (Q5 hr) (Zh (Zb 4) Zc) ZE) (Wm (ZN (Hv hr) (Zh (Zb 4) Zc) (Zb 3))))) (Yo (Vj (Zi G_keeps (hr.mono (by first | decide | omega)) rfl T.X3.m T.X3.F.kp T.X3.b Zx (Za (Zb 4) (Za (Zb 1) (Za (Zb 2) Zd)))))))) (Zg (QL (QP (Zb 3) (Zh (Zb 4) Zc)))) ZI)) PassesOwn.never rfl)
 (Zg (Zs (Zm Uh rfl T.QB Ql (Za (Zb 3) Zd)))))), fun xs M Φ h => ?_⟩
 replace h := Qn h
 obtain ⟨x1, x2, x3, rfl, h⟩ := h
 obtain ⟨ls, rfl, ss, rfl, h⟩ := h
 replace h := JU h
 obtain ⟨u, v, rfl, ⟨ho, h1, h2⟩, h⟩ := h
 have l8 := ho.1
 walk_at "hd"
 walk_at "rk"
 intro p hp
 walk_at "hd"
 walk_at "rk"
 refine ⟨ls, rfl, ho, fun ls' hO => ?_⟩
 have len := List.length_map (as := ls') ldD
 have l9 := hO.len
 walk_at "rk"
 refine ⟨fun i Δ M' => ∃ k4, Δ = [some (.dat (.tuple (ls.map ldD))), some (.dat (.list (ss.map PyData.str))), some (.dat (.tuple [.int u, .int v])), some (.own p), k4] ∧ M' = Zv M p (.lst ((QR ss u v (ls'.take i)).map PyData.str)), ⟨none, rfl, rfl⟩, ?_, ?_⟩
 ·rintro i d Δ M' hd ⟨k4, rfl, rfl⟩
  obtain ⟨l, el, rfl⟩ := ZF hd
  have ml := hO.mem (List.mem_of_getElem? el)
  have hll := h1 l ml
  have hin := Km (s := l.o) (ss := QR ss u v (ls'.take i)) fun t ht => by
   rcases List.mem_cons.mp ht with rfl | ht
   ·exact hll.2
   ·exact K2 (P := Xj) (fun l hl => (h1 l (hO.mem (List.mem_of_mem_take hl))).1) t ht
  have ln : (QR ss u v (ls'.take i)).length ≤ 24 := by
   have := Jz ss u v (ls'.take i)
   rw [List.length_take] at this
   omega
  have fin : Ws ss u v l = true → (decide (l.o = Str.ofString "") || decide (l.o ∈ QR ss u v (ls'.take i))) = true → (QR ss u v (ls'.take i)).map PyData.str ++ [.str l.n] = (QR ss u v (ls'.take (i + 1))).map PyData.str := fun a b => by
   rw [VA ss u v el]
   unfold Yi
   rw [a, b, Bool.and_self, if_pos rfl, List.map_append]
   rfl
  have fin2 : ((decide (l.o = Str.ofString "") || decide (l.o ∈ QR ss u v (ls'.take i))) && Ws ss u v l) = false → QR ss u v (ls'.take i) = QR ss u v (ls'.take (i + 1)) := fun a => by
   rw [VA ss u v el]
   unfold Yi
   rw [a, if_neg Bool.false_ne_true]
  rw [ZY, OH l]
  walk_at "rk"
  rw [hin.2]
  refine ZaE hin.1 (fun z => ⟨l, rfl, ss, rfl, ⟨ho.2.1 l ml, hll.1, h2⟩, ?_⟩) fun z => ⟨_, rfl, by rw [fin2 (by rw [z]; rfl)]⟩
  refine LW (fun y => ⟨by rw [List.length_map]; omega, _, rfl, by rw [fin y z]⟩) fun y => ⟨_, rfl, by rw [fin2 (by rw [y, Bool.and_false])]⟩
 ·rintro Δ M' ⟨k4, rfl, rfl⟩
  rw [len, List.take_length]
  subst_vars
  walk_at "rk"
  have fl := Jz ss u v ls'
  refine ⟨_, rfl, by omega, fun ss' hp' hs q hq => ?_⟩
  exact ZcH hp hq fun q hq => h ls' ss' hO hp' hs q hq
theorem Zcb (T : Tx K mg) : ZT P w K mg base CX0 1 T.Rn T.Ri ["_law_script", "_law_k"] (lift K C8) := by
 refine okD T.Gb.F GO (fun xs M Φ h => by obtain ⟨_, _, rfl, _⟩ := ZL h; rfl) fun cdv A outer s H E hr => ⟨_, (Ze (Zk 2 GO.nd (Zo ZJ (Zo Jk Zc (Zb 1)) Zc))
 (Ze (Qm (ZN Eh (Zb 1) (Zm VO rfl T.Y0 JO (Za (Zb 0) Zd))) (Zg (Zk 2 GO.nd (Zh (Zb 0) (Zb 1)))) (Zg (Qm (ZN Fi (Zm VO rfl T.Y0 JO (Za (Zb 0) Zd)) Zc) (Zg (Zk 2 GO.nd (Zo ZJ (Zo Jp (Zh (Zb 0) (Zo Jp (Zb 1) (Zm VO rfl T.Y0 JO (Za (Zb 0) Zd)))) (Zo Wx Zc Zc)) (Zo Jk Zc (Zb 1))))) ZI)))
 (Ze (Qm (ZN Zeu (Zm OG rfl T.ZaJ N7 (Za (Zb 2) Zd)) (Zo Wx Zc Zc)) (Zg (Zs (Qg (Za (Zm OG rfl T.ZaJ N7 (Za (Zb 2) Zd)) (Za Zc (Za Zc Zd)))))) ZI)
 (Zg (Zs (Qg (Za (Zo Jp (Zb 2) Zc) (Za (Zo ZJ (Zo Jk Zc (Zb 1)) Zc) (Za Zc Zd))))))))), fun xs M Φ h => ?_⟩
 replace h := ZL h
 obtain ⟨x1, x2, rfl, h⟩ := h
 replace h := Se h
 obtain ⟨ns, rfl, h⟩ := h
 replace h := ZM h
 obtain ⟨k, rfl, h0, h⟩ := h
 walk_at "hd"
 walk_at "rk"
 refine ⟨.inl (by decide), ?_⟩
 walk_at "hd"
 walk_at "rk"
 rw [List.length_map]
 refine Zz (fun h1 => ?_) fun h1 => Zz (fun h2 => ?_) fun h2 => ?_
 ·obtain ⟨c, hc⟩ := Ho (ns := ns) h0 h1
  refine JW hc ?_
  walk_at "hd"
  walk_at "rk"
  refine ⟨PU _ (by decide), Zz (fun _ p hp => h p _ hp ⟨_, _, _, rfl⟩) fun _ => ?_⟩
  subst_vars
  walk_at "rk"
  exact ⟨.inl (by decide), fun p hp => h p _ hp ⟨_, _, _, rfl⟩⟩
 ·have hm := W9 k h2
  obtain ⟨c, hc⟩ := Ho (ns := ns) hm.1 hm.2
  refine ⟨h2, JW hc ⟨PU _ (by decide), ?_⟩⟩
  walk_at "rk"
  refine ⟨.inl (by decide), ?_⟩
  walk_at "hd"
  walk_at "rk"
  refine ⟨PU _ (by decide), Zz (fun _ p hp => h p _ hp ⟨_, _, _, rfl⟩) fun _ => ?_⟩
  subst_vars
  walk_at "rk"
  exact ⟨.inl (by decide), fun p hp => h p _ hp ⟨_, _, _, rfl⟩⟩
 ·walk_at "hd"
  walk_at "rk"
  refine ⟨PU _ (by decide), Zz (fun _ p hp => h p _ hp ⟨_, _, _, rfl⟩) fun _ => ?_⟩
  subst_vars
  walk_at "rk"
  exact ⟨.inl (by decide), fun p hp => h p _ hp ⟨_, _, _, rfl⟩⟩
theorem Jo (T : Tx K mg) : ZT P w K mg base CX0 1 T.JQ T.JT ["_law_pen_here", "_law_many"] (lift K JS) := by
 refine okD T.Zj.F Kq (fun xs M Φ h => by obtain ⟨_, _, rfl, _⟩ := ZL h; rfl) fun cdv A outer s H E hr => ⟨_, (Ze (Qm (ZN (Q5 hr) (Zh (Zb 0) Zc) Zc) (Ze (Zk 3 Kq.nd (Zo Jp (Zh (Zb 0) Zc) (Zb 1)))
 (Ze (YH (Zo L3 (Zh (Zb 0) Zc) (Zb 1)) (BR (Zb 0) Zc))
 (Zg (Zs (Zb 3))))) ZI)
 (Ze (YH (Zo ZJ (Zh (Zb 0) Zc) Zc) (BR (Zb 0) Zc))
 (Ze (Zk 2 Kq.nd (Zo Jp (Zo Jk (Zo ZJ (Zo ZJ (Zh (Zb 0) Zc) (Zo Jk Zc (Zh (Zb 0) Zc))) Zc) Zc) Zc))
 (Ze (Zk 2 Kq.nd (Zo Jp (Zo Jk (Zb 2) (Zo ZJ (Zo ZJ (Zo Jp (Zb 2) Zc) Zc) (Zh (Zb 0) Zc))) Zc))
 (Ze (YH (Zb 2) (BR (Zb 0) Zc))
 (Zg (Zs (Zo Jp (Zo GJ (Zb 2) Zc) (Zb 1))))))))), fun xs M Φ h => ?_⟩
 replace h := ZL h
 obtain ⟨x1, x2, rfl, h⟩ := h
 replace h := ZU h
 obtain ⟨p, rfl, h⟩ := h
 replace h := ZM h
 obtain ⟨m, rfl, ⟨h0, h1⟩, hp, h⟩ := h
 obtain ⟨a, b, c, hp⟩ := hp.get
 have lg : m.natAbs.log2 < 9000 := Nat.lt_of_lt_of_le (BW (k := 70) (by omega) (by decide)) (by decide)
 have fin : ∀ (x a b c : Int), Φ (.dat (.int (x % m))) (Zv M p (.lst [.int a, .int b, .int c])) := fun x a b c => h _ _ (W9 x h0).1 (W9 x h0).2 (Fr.Zv ⟨a, b, c, rfl⟩)
 walk_at "hd"
 walk_at "rk"
 simp only [hp]
 walk_at "rk"
 refine Zz (fun h2 => ⟨h0, ⟨h0, lg⟩, fin _ _ _ _⟩) fun h2 => ?_
 walk_at "hd"
 walk_at "rk"
 simp only [hp]
 walk_at "rk"
 walk_at "hd"
 walk_at "rk"
 refine ⟨.inl (by decide), .inr (by decide), ?_⟩
 walk_at "hd"
 walk_at "rk"
 refine ⟨.inl (by omega), ?_⟩
 walk_at "hd"
 walk_at "rk"
 subst_vars
 walk_at "rk"
 exact ⟨⟨by decide, by decide⟩, h0, fin _ _ _ _⟩
theorem MQ (T : Tx K mg) : ZT P w K mg base CX0 2 T.Ur T.UD ["_law_pen_here", "_law_many"] (lift K UN) := by
 have G_draw : ZT P w K mg base CX0 1 T.JQ T.JT ["_law_pen_here", "_law_many"] (lift K JS) := Jo T
 refine okD T.Kg.F QS (fun xs M Φ h => by obtain ⟨_, _, rfl, _⟩ := ZL h; rfl) fun cdv A outer s H E hr => ⟨_, (Ze (Zk 2 QS.nd ZE)
 (Ze (Zk 3 QS.nd (Qc false (Zy (sc := Zf QY) (XN := ["_law_pen_here", "_law_many", "_law_letters", "_law_base", "_law_long", "_law_at", "_law_found", "_law_k", "_law_signs"]) (N := ["_law_k", "_law_pen_here"]) (ix := [none, some 0]) rfl rfl (by decide +kernel)) (Ys rfl T.Qw (Za Zc Zd)) (fun C ex s H => (Zl 0 (show List.Nodup (["_law_k", "_law_pen_here"] : List Str) by decide +kernel))) (fun C ex s H => Z6) (fun C ex s H => (Zi G_draw (hr.mono (by first | decide | omega)) rfl T.Zj.m T.Zj.F.kp T.Zj.b Zx (Za (Zb 1) (Za Zc Zd)))) rfl))
 (Ze (Qm (ZN (Q5 hr) (Zi G_draw (hr.mono (by first | decide | omega)) rfl T.Zj.m T.Zj.F.kp T.Zj.b Zx (Za (Zb 0) (Za Zc Zd))) Zc) (Zg (Zs (Qc false (Zy (sc := Zf QY) (XN := ["_law_pen_here", "_law_many", "_law_letters", "_law_base", "_law_long", "_law_at", "_law_found", "_law_k", "_law_signs"]) (N := ["_law_k", "_law_letters", "_law_base"]) (ix := [none, some 2, some 3]) rfl rfl (by decide +kernel)) (Ys rfl T.Qw (Za (Zb 1) Zd)) (fun C ex s H => (Zl 0 (show List.Nodup (["_law_k", "_law_letters", "_law_base"] : List Str) by decide +kernel))) (fun C ex s H => Z6) (fun C ex s H => (Fo ZE (Qc false (Ew (sc := Zf QY) (N := ["_law_sign", "_law_letters"]) (ix := [none, some 1]) rfl (by decide +kernel)) (Q6 (Vo (Zb 2) Yp (Yr (Zo Z9 Zc (Zb 0))))) (fun C ex s H => (Zl 0 (show List.Nodup (["_law_sign", "_law_letters"] : List Str) by decide +kernel))) (fun C ex s H => Z6) (fun C ex s H => (Bt (Zb 1) (Zb 0))) rfl))) rfl))) ZI)
 (Ze (Zk 4 QS.nd (Zo ZJ Zc (Zi G_draw (hr.mono (by first | decide | omega)) rfl T.Zj.m T.Zj.F.kp T.Zj.b Zx (Za (Zb 0) (Za Zc Zd)))))
 (Ze (Zk 5 QS.nd (Zi G_draw (hr.mono (by first | decide | omega)) rfl T.Zj.m T.Zj.F.kp T.Zj.b Zx (Za (Zb 0) (Za (Zb 4) Zd))))
 (Ze (Zk 6 QS.nd (Qg Zd))
 (Ze (Je rfl T.Qw (Za (Zb 1) Zd) (Zl 7 QS.nd) (Ze (Uw 8 true QS.nd (Zy (sc := Zf QY) (XN := ["_law_pen_here", "_law_many", "_law_letters", "_law_base", "_law_long", "_law_at", "_law_found", "_law_k", "_law_signs"]) (N := ["_law_sign", "_law_letters"]) (ix := [none, some 2]) rfl rfl (by decide +kernel)) (Q6 (Vo (Zb 3) Yp (Yr (Zb 4)))) (fun C ex s H => (Zl 0 (show List.Nodup (["_law_sign", "_law_letters"] : List Str) by decide +kernel))) (fun C ex s H => Z6) (fun C ex s H => (Bt (Zb 1) (Zb 0))) rfl)
 (Ze (YH (Bt (Zb 2) (Zo Jp (Zo ZJ (Zh (Zb 3) (Zb 5)) (Zo Jk Zc (Zb 7))) Zc)) (BR (Zb 8) (Zb 5)))
 (Zg (QL (QP (Zb 6) (Fo ZE (BL (Zb 8)))))))) PassesOwn.never rfl)
 (Zg (Zs (BL (Zb 6))))))))))), fun xs M Φ h => ?_⟩
 replace h := ZL h
 obtain ⟨x1, x2, rfl, h⟩ := h
 replace h := ZU h
 obtain ⟨p, rfl, h⟩ := h
 replace h := ZM h
 obtain ⟨m, rfl, rfl, hp, h⟩ := h
 walk_at "hd"
 walk_at "rk"
 walk_at "hd"
 walk_at "rk"
 refine ⟨⟨by decide, by decide⟩, by rw [QD]; decide, fun i acc M' => ∃ bs : List Int, acc = bs.map PyData.int ∧ bs.length = i ∧ (∀ b ∈ bs, 0 ≤ b ∧ b < 26) ∧ Fr p M M', ⟨[], rfl, rfl, fun s hs => (nomatch hs), Fr.refl hp⟩, ?_, ?_⟩
 ·rintro i d acc M' hd ⟨bs, rfl, hl, ha, hf⟩
  refine ⟨hf.1, fun r M2 h0 h1 f2 => ⟨bs ++ [r], by rw [List.map_append]; rfl, by rw [List.length_append, hl]; rfl, fun b hb => ?_, hf.trans f2⟩⟩
  rcases List.mem_append.mp hb with hb | hb
  ·exact ha b hb
  ·rw [List.mem_singleton.mp hb]
   exact ⟨h0, h1⟩
 ·rintro acc M1 ⟨bs, rfl, h8, ha, hf⟩
  rw [QD] at h8
  walk_at "hd"
  walk_at "rk"
  refine ⟨hf.1, fun r M2 r0 r1 f2 => Zz (fun z => ?_) fun z => ?_⟩
  ·refine ⟨⟨by decide, by decide⟩, by rw [QD]; decide, fun i acc M' => acc = (List.range i).map (fun k => PyData.str (nmS (bs.take (8 - k)))) ∧ M' = M2, ⟨rfl, rfl⟩, ?_, ?_⟩
   ·rintro i d acc M' hd ⟨rfl, rfl⟩
    have hi : i < 6 := by have := (List.getElem?_eq_some_iff.mp hd).1; rw [QD] at this; exact this
    rw [X8 hi] at hd
    cases hd
    walk_at "rk"
    rw [G3 (by omega) (by omega), show (8 - (i : Int)).toNat = 8 - i by omega]
    refine ⟨by rw [List.length_map, List.length_take]; omega, fun j acc M2 => acc = ((bs.take (8 - i)).take j |>.map Xu).map PyData.str ∧ M2 = M', ⟨rfl, rfl⟩, ?_, ?_⟩
    ·rintro j d acc M' hd ⟨rfl, rfl⟩
     obtain ⟨b, eb, rfl⟩ := ZF hd
     have hb := ha b (List.mem_of_mem_take (List.mem_of_getElem? eb))
     walk_at "rk"
     refine ⟨by rw [Kw]; decide, _, Bj hb.1 hb.2, ?_⟩
     rw [List.map_map, List.map_map, ← take_snoc _ eb]
     first | exact ⟨rfl, rfl⟩ | rfl
    ·rintro acc M' ⟨rfl, rfl⟩
     rw [List.length_map, List.take_length]
     refine ⟨_, rfl, Zcp (by rw [List.length_take]; omega), ?_⟩
     exact ⟨ZbG (fun k => PyData.str (nmS (bs.take (8 - k)))) i, rfl⟩
   ·rintro acc M' ⟨rfl, rfl⟩
    rw [QD]
    have e0 : (List.range 6).map (fun k => PyData.str (nmS (bs.take (8 - k)))) = ((List.range 6).map fun k => nmS (bs.take (8 - k))).map PyData.str := by rw [List.map_map]; rfl
    rw [e0]
    refine h _ _ (by rw [List.length_map, List.length_range]) ?_ (fun s hs => ?_) (hf.trans f2)
    ·refine By (fun s => s.length) (fun j => 8 - j) (fun j s hj => ?_) fun i j hi hj hij => ?_
     ·obtain ⟨k, ek, rfl⟩ := ZF hj
      have hk : j < 6 := by have := (List.getElem?_eq_some_iff.mp ek).1; rwa [List.length_range] at this
      rw [List.getElem?_range hk] at ek
      cases ek
      show (nmS (bs.take (8 - j))).length = _
      rw [OF, List.length_take]
      omega
     ·rw [List.length_map, List.length_range] at hi hj
      omega
    ·obtain ⟨k, hk, rfl⟩ := List.mem_map.mp hs
     have hk := List.mem_range.mp hk
     exact Fj (by rw [List.length_take]; omega) fun b hb => ha b (List.mem_of_mem_take hb)
  ·walk_at "hd"
   walk_at "rk"
   refine ⟨f2.1, fun lg M3 l0 l1 f3 => ?_⟩
   walk_at "hd"
   walk_at "rk"
   refine ⟨⟨by omega, by omega⟩, f3.1, fun at1 M4 t0 t1 f4 => ?_⟩
   walk_at "hd"
   walk_at "rk"
   intro q hq
   walk_at "hd"
   walk_at "rk"
   obtain ⟨a, rfl⟩ := Int.eq_ofNat_of_zero_le t0
   obtain ⟨b, eb⟩ : ∃ b, bs[a]? = some b := ⟨_, List.getElem?_eq_getElem (by omega)⟩
   have hL : (1 + lg).toNat ≤ 8 := by omega
   have haL : a < (1 + lg).toNat := by omega
   refine ⟨⟨by decide, by decide⟩, fun i Δ M' => ∃ k7 k8 : Option DV, Δ = [some (.own p), some (.dat (.int 6)), some (.dat (.str (Str.ofString "abcdefghijklmnopqrstuvwxyz"))), some (.dat (.list (bs.map PyData.int))), some (.dat (.int (1 + lg))), some (.dat (.int (a : Int))), some (.own q), k7, k8] ∧
    M' = Zv M4 q (.lst ((List.range i).map fun (k : Nat) => PyData.str (nmS ((bs.take (1 + lg).toNat).set a ((b + 9 * (k : Int)) % 26))))), ⟨none, none, rfl, rfl⟩, ?_, ?_⟩
   ·rintro i Δ M' hi ⟨k7, k8, rfl, rfl⟩
    rw [ZY]
    walk_at "hd"
    walk_at "rk"
    rw [G3 (by omega) (by omega)]
    refine ⟨by rw [List.length_map, List.length_take]; omega, fun j acc M2 => acc = ((bs.take (1 + lg).toNat).take j |>.map Xu).map PyData.str ∧ M2 = _, ⟨rfl, rfl⟩, ?_, ?_⟩
    ·rintro j d acc M' hd ⟨rfl, rfl⟩
     obtain ⟨c, ec, rfl⟩ := ZF hd
     have hc := ha c (List.mem_of_mem_take (List.mem_of_getElem? ec))
     walk_at "rk"
     refine ⟨by rw [Kw]; decide, _, Bj hc.1 hc.2, ?_⟩
     rw [List.map_map, List.map_map, ← take_snoc _ ec]
     first | exact ⟨rfl, rfl⟩ | rfl
    ·rintro acc M' ⟨rfl, rfl⟩
     rw [List.length_map, List.take_length]
     intro q2 hq2
     have hne : q2 ≠ q := fun e => by rw [e, Zn] at hq2; cases hq2
     walk_at "hd"
     walk_at "rk"
     refine JW (d := .int b) (J4 (by rw [List.getElem?_map, eb]; rfl)) ⟨.inl (by decide), ?_⟩
     have hm := W9 (b + 9 * (i : Int)) (show (0 : Int) < 26 by decide)
     refine ⟨by rw [Kw]; decide, _, Bj hm.1 hm.2, a, by unfold ixN; rw [List.length_map, List.length_map, List.length_take, if_pos (by omega), if_pos (by omega)]; rfl, ?_⟩
     have e2 := RB (bs := bs.take (1 + lg).toNat) a ((b + 9 * (i : Int)) % 26)
     rw [e2]
     subst_vars
     walk_at "rk"
     simp only [Zp (Ne.symm hne), Zn]
     walk_at "rk"
     refine ⟨_, rfl, Zcp (bs := (bs.take (1 + lg).toNat).set a ((b + 9 * (i : Int)) % 26)) (by rw [List.length_set, List.length_take]; omega), ?_⟩
     rw [Q3 hq2]
     walk_at "rk"
     refine ⟨by rw [List.length_map, List.length_range]; omega, _, _, rfl, ?_⟩
     rw [← ZbG]
     rfl
   ·rintro Δ M' ⟨k7, k8, rfl, rfl⟩
    subst_vars
    walk_at "rk"
    rw [Q3 hq]
    have e0 : ((List.range 6).map fun (k : Nat) => PyData.str (nmS ((bs.take (1 + lg).toNat).set a ((b + 9 * (k : Int)) % 26)))) = ((List.range 6).map fun (k : Nat) => nmS ((bs.take (1 + lg).toNat).set a ((b + 9 * (k : Int)) % 26))).map PyData.str := by rw [List.map_map]; rfl
    rw [e0]
    refine h _ _ (by rw [List.length_map, List.length_range]) ?_ (fun s hs => ?_) (((hf.trans f2).trans f3).trans f4)
    ·refine By (fun s => s.cps.toList[a]?) (fun j => some (97 + ((b + 9 * (j : Int)) % 26).toNat)) (fun j s hj => ?_) fun i j hi hj hij => ?_
     ·obtain ⟨k, ek, rfl⟩ := ZF hj
      have hk : j < 6 := by have := (List.getElem?_eq_some_iff.mp ek).1; rwa [List.length_range] at this
      rw [List.getElem?_range hk] at ek
      cases ek
      show (nmS _).cps.toList[a]? = _
      rw [GK, List.getElem?_map, List.getElem?_set_self (by rw [List.length_take]; omega)]
      rfl
     ·rw [List.length_map, List.length_range] at hi hj
      intro e
      have e := Option.some.inj e
      omega
    ·obtain ⟨k, hk, rfl⟩ := List.mem_map.mp hs
     refine Fj (by rw [List.length_set, List.length_take]; omega) fun c hc => ?_
     rcases List.mem_or_eq_of_mem_set hc with hc | rfl
     ·exact ha c (List.mem_of_mem_take hc)
     ·exact W9 _ (by decide)
theorem Bc (T : Tx K mg) : ZT P w K mg base CX0 2 T.Xx T.Ke ["_law_pen_here"] (lift K V9) := by
 have G_draw : ZT P w K mg base CX0 1 T.JQ T.JT ["_law_pen_here", "_law_many"] (lift K JS) := Jo T
 refine okD T.Vc.F Bd (fun xs M Φ h => by obtain ⟨_, rfl, _⟩ := ZS h; rfl) fun cdv A outer s H E hr => ⟨_, (Ze (Zk 1 Bd.nd (Qf (Za Zc (Za Zc (Za (Zo Wx Zc Zc) (Za (Zo Z9 Zc (Zo Wx Zc Zc)) Zd))))))
 (Zg (Zs (ZH (Za (Zh (Qf (Za Zc (Za Zc (Za (Zo Wx Zc Zc) (Za Zc (Za Zc Zd)))))) (Zi G_draw (hr.mono (by first | decide | omega)) rfl T.Zj.m T.Zj.F.kp T.Zj.b Zx (Za (Zb 0) (Za Zc Zd)))) (Za (Zh (Zb 1) (Zi G_draw (hr.mono (by first | decide | omega)) rfl T.Zj.m T.Zj.F.kp T.Zj.b Zx (Za (Zb 0) (Za Zc Zd)))) (Za (Zh (Zb 1) (Zi G_draw (hr.mono (by first | decide | omega)) rfl T.Zj.m T.Zj.F.kp T.Zj.b Zx (Za (Zb 0) (Za Zc Zd)))) Zd))))))), fun xs M Φ h => ?_⟩
 replace h := ZS h
 obtain ⟨x1, rfl, h⟩ := h
 replace h := ZU h
 obtain ⟨p, rfl, hp, h⟩ := h
 walk_at "hd"
 walk_at "rk"
 refine ⟨PU _ (by decide), PU _ (by decide), ?_⟩
 subst_vars
 walk_at "rk"
 refine ⟨PU _ (by decide), hp, fun r1 M1 a1 b1 f1 => tab (l := [1, 1, 1000000000, 1, 6]) (fun f => 1 ≤ f ∧ f ≤ 1000000000) a1 (by simp only [List.length_cons, List.length_nil]; omega) (by decide) fun f hf => ⟨f1.1, fun r2 M2 a2 b2 f2 => tab (l := [0, 0, 100000000000, -100000000000]) (fun o => -100000000000 ≤ o ∧ o ≤ 100000000000) a2 (by simp only [List.length_cons, List.length_nil]; omega) (by decide) fun ox hx => ⟨f2.1, fun r3 M3 a3 b3 f3 => tab (l := [0, 0, 100000000000, -100000000000]) (fun o => -100000000000 ≤ o ∧ o ≤ 100000000000) a3 (by simp only [List.length_cons, List.length_nil]; omega) (by decide) fun oy hy => h f ox oy M3 ⟨hf, hx, hy⟩ ((f1.trans f2).trans f3)⟩⟩⟩
theorem Mq (T : Tx K mg) : ZT P w K mg base CX0 2 T.UH T.UK ["_law_pen_here"] (lift K Ka) := by
 have G_draw : ZT P w K mg base CX0 1 T.JQ T.JT ["_law_pen_here", "_law_many"] (lift K JS) := Jo T
 refine okD T.XT.F Qk (fun xs M Φ h => by obtain ⟨_, rfl, _⟩ := ZS h; rfl) fun cdv A outer s H E hr => ⟨_, (Ze (Zk 1 Qk.nd (Qg Zd))
 (Ze (Je rfl T.Qw (Za (Zh (Qf (Za Zc (Za Zc (Za Zc (Za Zc (Za Zc (Za Zc (Za Zc (Za Zc Zd))))))))) (Zi G_draw (hr.mono (by first | decide | omega)) rfl T.Zj.m T.Zj.F.kp T.Zj.b Zx (Za (Zb 0) (Za Zc Zd)))) Zd) (Zl 2 Qk.nd) (Ze (Zk 3 Qk.nd (Zh (Qf (Za Zc (Za Zc (Za Zc (Za Zc (Za Zc (Za Zc (Za Zc (Za Zc Zd))))))))) (Zi G_draw (hr.mono (by first | decide | omega)) rfl T.Zj.m T.Zj.F.kp T.Zj.b Zx (Za (Zb 0) (Za Zc Zd)))))
 (Ze (Zk 4 Qk.nd (Zh (Qf (Za Zc (Za Zc (Za Zc (Za Zc (Za Zc (Za Zc (Za Zc (Za Zc Zd))))))))) (Zi G_draw (hr.mono (by first | decide | omega)) rfl T.Zj.m T.Zj.F.kp T.Zj.b Zx (Za (Zb 0) (Za Zc Zd)))))
 (Ze (Zk 5 Qk.nd (Zi G_draw (hr.mono (by first | decide | omega)) rfl T.Zj.m T.Zj.F.kp T.Zj.b Zx (Za (Zb 0) (Za Zc Zd))))
 (Ze (Zk 6 Qk.nd (Zi G_draw (hr.mono (by first | decide | omega)) rfl T.Zj.m T.Zj.F.kp T.Zj.b Zx (Za (Zb 0) (Za Zc Zd))))
 (Ze (Qm (ZN Fi (Zb 2) Zc) (Ze (YH (Zh (Zb 1) (Zo Z9 (Zb 2) Zc)) (JR (n := 2) rfl (ZG (Zl 7 Qk.nd) (ZG (Zl 8 Qk.nd) Q0))))
 (Ze (Zk 5 Qk.nd (Zo ZJ (Zo Z9 (Zo Z9 (Zh (Zb 7) Zc) (Zb 3)) Zc) (Zi G_draw (hr.mono (by first | decide | omega)) rfl T.Zj.m T.Zj.F.kp T.Zj.b Zx (Za (Zb 0) (Za (Zo ZJ (Zo ZJ (Zo Z9 (Zh (Zb 8) Zc) (Zh (Zb 7) Zc)) (Zb 3)) Zc) Zd)))))
 (Zg (Zk 6 Qk.nd (Zo ZJ (Zo Z9 (Zo Z9 (Zh (Zb 7) Zc) (Zb 4)) Zc) (Zi G_draw (hr.mono (by first | decide | omega)) rfl T.Zj.m T.Zj.F.kp T.Zj.b Zx (Za (Zb 0) (Za (Zo ZJ (Zo ZJ (Zo Z9 (Zh (Zb 8) Zc) (Zh (Zb 7) Zc)) (Zb 4)) Zc) Zd)))))))) ZI)
 (Zg (QL (QP (Zb 1) (ZH (Za (ZH (Za (Zb 5) (Za (Zb 6) Zd))) (Za (ZH (Za (Zo ZJ (Zb 5) (Zb 3)) (Za (Zo ZJ (Zb 6) (Zb 4)) Zd))) Zd))))))))))) PassesOwn.never rfl)
 (Zg (Zs (BL (Zb 1)))))), fun xs M Φ h => ?_⟩
 replace h := ZS h
 obtain ⟨x1, rfl, h⟩ := h
 replace h := ZU h
 obtain ⟨p, rfl, hp, h⟩ := h
 walk_at "hd"
 walk_at "rk"
 intro q hq
 have n1 : q ≠ p := Ne.symm (hp.ne hq)
 walk_at "hd"
 walk_at "rk"
 refine ⟨hp.put (Ne.symm n1), fun r M1 a1 b1 f1 => tab (l := [1, 2, 1, 3, 2, 6, 1, 2]) (fun m => 1 ≤ m ∧ m ≤ 6) a1 (by simp only [List.length_cons, List.length_nil]; omega) (by decide) fun m hm => ?_⟩
 walk_at "rk"
 refine ⟨⟨by omega, by omega⟩, fun i Δ M' => ∃ (cs : List B4) (k2 k3 k4 k5 k6 k7 k8 : Option DV), Δ = [some (.own p), some (.own q), k2, k3, k4, k5, k6, k7, k8] ∧ cs.length = i ∧ (∀ c ∈ cs, Bx i c) ∧ M' q = some (.lst (cs.map bD)) ∧ Fr p M M',
  ⟨[], _, _, _, _, _, _, _, rfl, rfl, fun c hc => (nomatch hc), f1.own Zn n1, ((Fr.refl hp).put hq n1).trans f1⟩, ?_, ?_⟩
 ·rintro i Δ M' hi ⟨cs, k2, k3, k4, k5, k6, k7, k8, rfl, hl, hcs, hq', hF⟩
  rw [ZY]
  walk_at "hd"
  walk_at "rk"
  refine ⟨hF.1, fun r2 M2 a2 b2 f2 => tab (l := [4, 2, 0, 6, 1, 8, 3, 11]) (fun m => 0 ≤ m ∧ m ≤ 11) a2 (by simp only [List.length_cons, List.length_nil]; omega) (by decide) fun wd hwd => ?_⟩
  walk_at "hd"
  walk_at "rk"
  refine ⟨f2.1, fun r3 M3 a3 b3 f3 => tab (l := [4, 2, 6, 0, 8, 1, 11, 3]) (fun m => 0 ≤ m ∧ m ≤ 11) a3 (by simp only [List.length_cons, List.length_nil]; omega) (by decide) fun hg hhg => ?_⟩
  walk_at "hd"
  walk_at "rk"
  refine ⟨f3.1, fun x4 M4 a4 b4 f4 => ?_⟩
  walk_at "hd"
  walk_at "rk"
  refine ⟨f4.1, fun y5 M5 a5 b5 f5 => ?_⟩
  have F5 := (((hF.trans f2).trans f3).trans f4).trans f5
  have q5 : M5 q = some (.lst (cs.map bD)) := f5.own (f4.own (f3.own (f2.own hq' n1) n1) n1) n1
  have q0 : M q = none := hq
  have fin : ∀ (x y : Int) (M6 : Mp) (k7 k8 : Option DV), (-(12 * ((cs.length : Int) + 1)) ≤ x ∧ x + wd ≤ 22 + 12 * ((cs.length : Int) + 1)) → (-(12 * ((cs.length : Int) + 1)) ≤ y ∧ y + hg ≤ 22 + 12 * ((cs.length : Int) + 1)) → Fr p M M6 → (cs.map bD).length < 16777216 ∧ ∃ (cs1 : List B4) (j2 j3 j4 j5 j6 j7 j8 : Option DV), ([some (.own p), some (.own q), some (.dat (.int (cs.length : Int))), some (.dat (.int wd)), some (.dat (.int hg)), some (.dat (.int x)), some (.dat (.int y)), k7, k8] : DSt) = [some (.own p), some (.own q), j2, j3, j4, j5, j6, j7, j8] ∧ cs1.length = cs.length + 1 ∧ (∀ c ∈ cs1, Bx ((cs.length + 1 : Nat) : Int) c) ∧ OO.lst (cs.map bD ++ [.tuple [.tuple [.int x, .int y], .tuple [.int (x + wd), .int (y + hg)]]]) = .lst (cs1.map bD) ∧ Fr p M (Zv M6 q (.lst (cs.map bD ++ [.tuple [.tuple [.int x, .int y], .tuple [.int (x + wd), .int (y + hg)]]]))) := fun x y M6 k7 k8 hx hy hF6 => by
   refine ⟨by rw [List.length_map]; omega, cs ++ [⟨x, y, x + wd, y + hg⟩], _, _, _, _, _, _, _, rfl, by rw [List.length_append]; rfl, fun c hc => ?_, by rw [List.map_append]; rfl, hF6.put q0 n1⟩
   rcases List.mem_append.mp hc with hc | hc
   ·have := hcs c hc
    unfold Bx at this ⊢
    omega
   ·rw [List.mem_singleton.mp hc]
    unfold Bx
    dsimp only
    omega
  walk_at "hd"
  walk_at "rk"
  refine Zz (fun z => ?_) fun z => ?_
  ·rw [q5]
   obtain ⟨b, eb⟩ : ∃ b, cs[cs.length - 1]? = some b := ⟨cs[cs.length - 1], List.getElem?_eq_getElem (by omega)⟩
   have hb := hcs b (List.mem_of_getElem? eb)
   unfold Bx at hb
   rw [UL]
   refine JW (d := bD b) (by
    rw [show ((cs.length : Int) - 1) = ((cs.length - 1 : Nat) : Int) by omega]
    refine J4 ?_
    rw [List.getElem?_map, eb]
    rfl) ?_
   walk_at "rk"
   refine ⟨⟨by omega, by omega⟩, f5.1, fun r6 M6 a6 b6 f6 => ⟨⟨by omega, by omega⟩, f6.1, fun r7 M7 a7 b7 f7 => ?_⟩⟩
   have q7 : M7 q = some (.lst (cs.map bD)) := f7.own (f6.own q5 n1) n1
   subst_vars
   walk_at "rk"
   rw [q7]
   walk_at "rk"
   exact fin (b.x - wd - 1 + r6) (b.y - hg - 1 + r7) M7 _ _ ⟨by omega, by omega⟩ ⟨by omega, by omega⟩ ((F5.trans f6).trans f7)
  ·subst_vars
   walk_at "rk"
   rw [q5]
   walk_at "rk"
   exact fin x4 y5 M5 _ _ ⟨by omega, by omega⟩ ⟨by omega, by omega⟩ F5
 ·rintro Δ M' ⟨cs, k2, k3, k4, k5, k6, k7, k8, rfl, hl, hcs, hq', hF⟩
  subst_vars
  walk_at "rk"
  simp only [hq']
  walk_at "rk"
  refine h cs _ (by omega) (fun b hb => ?_) (hF.gone hq n1)
  have := hcs b hb
  unfold Bx at this ⊢
  omega
theorem Hx (T : Tx K mg) : ZT P w K mg base CX0 1 T.GS T.GP ["_law_frame_here", "_law_spot_here", "_law_more"] (lift K Kb) := by
 refine okD T.JN.F PJ (fun xs M Φ h => by obtain ⟨_, _, _, rfl, _⟩ := Qn h; rfl) fun cdv A outer s H E hr => ⟨_, (Zg (Zs (ZH (Za (Zo ZJ (Zo ZJ (Zo Jk (Zh (Zb 1) Zc) (Zh (Zb 0) Zc)) (Zb 2)) (Zh (Zb 0) Zc)) (Za (Zo ZJ (Zo ZJ (Zo Jk (Zh (Zb 1) Zc) (Zh (Zb 0) Zc)) (Zb 2)) (Zh (Zb 0) Zc)) Zd))))), fun xs M Φ h => ?_⟩
 replace h := Qn h
 obtain ⟨x1, x2, x3, rfl, h⟩ := h
 replace h := Sa h
 obtain ⟨f, ox, oy, rfl, h⟩ := h
 replace h := JU h
 obtain ⟨a, b, rfl, h⟩ := h
 replace h := ZM h
 obtain ⟨m, rfl, hs, h⟩ := h
 walk_at "rk"
 exact ⟨.inl (by omega), .inl (by omega), h⟩
theorem LN (T : Tx K mg) : ZT P w K mg base CX0 3 T.UJ T.UA ["_law_pen_here"] (lift K UB) := by
 have G_frame : ZT P w K mg base CX0 2 T.Xx T.Ke ["_law_pen_here"] (lift K V9) := Bc T
 have G_names : ZT P w K mg base CX0 2 T.Ur T.UD ["_law_pen_here", "_law_many"] (lift K UN) := MQ T
 refine okD T.KJ.F BK (fun xs M Φ h => by obtain ⟨_, rfl, _⟩ := ZS h; rfl) fun cdv A outer s H E hr => ⟨_, (Ze (Zk 1 BK.nd (BV (Yb ZE (Zi G_names (hr.mono (by first | decide | omega)) rfl T.Kg.m T.Kg.F.kp T.Kg.b Zx (Za (Zb 0) (Za Zc Zd))) (Yb ZE (Qg (Za (ZH (Za Zc (Za Zc Zd))) Zd)) C7))))
 (Ze (Eu hr (Zb 1) ZE (Zi G_frame (hr.mono (by first | decide | omega)) rfl T.Vc.m T.Vc.F.kp T.Vc.b Zx (Za (Zb 0) Zd)))
 (Zg (Zs (Zb 1))))), fun xs M Φ h => ?_⟩
 replace h := ZS h
 obtain ⟨x1, rfl, h⟩ := h
 replace h := ZU h
 obtain ⟨p, rfl, hp, h⟩ := h
 walk_at "hd"
 walk_at "rk"
 intro q hq
 have n1 : q ≠ p := Ne.symm (hp.ne hq)
 refine ⟨hp.put (Ne.symm n1), fun ss M1 hl hn hN f1 c hc => ?_⟩
 have q1 : M1 q = some (.dko []) := f1.own Zn n1
 have n2 : c ≠ p := Ne.symm (f1.1.ne hc)
 have n3 : c ≠ q := fun e => by
  rw [e, q1] at hc
  cases hc
 have c0 : M c = none := by
  have := f1.fresh hc
  rw [Zp n3] at this
  exact this
 refine ⟨by rw [Zp (Ne.symm n3)]; exact q1, by decide +kernel, ?_⟩
 walk_at "hd"
 walk_at "rk"
 have F1 : Fr p M M1 := ((Fr.refl hp).put hq n1).trans f1
 have F2 := (F1.put (o := .lst [PyData.tuple [PyData.int 0, PyData.int 0]]) c0 n2).put (o := .dko [(.inr (Str.ofString "lands"), .dat (.list (ss.map PyData.str))), (.inr (Str.ofString "corners"), .own c)]) hq n1
 refine ⟨F2.1, fun f ox oy M2 hf f2 => ?_⟩
 have q2 := f2.own Zn n1
 have c2 := f2.own ((Zp n3).trans Zn) n2
 rw [q2]
 walk_at "rk"
 subst_vars
 walk_at "rk"
 rw [Oo]
 exact h q c ss _ hq c0 ⟨⟨f, ox, oy, Zn, hf⟩, ⟨[(0, 0)], (Zp n3).trans c2, fun k hk => by rw [List.mem_singleton.mp hk]; unfold Sm; decide, Nat.le_refl _, Nat.le_refl _⟩, n1, n2, n3, ⟨by omega, by omega⟩, hn, hN⟩ ((F2.trans f2).put hq n1)
theorem Ft (T : Tx K mg) : ZT P w K mg base CX0 3 T.Bb T.Bn ["_law_pen_here", "_law_house_here"] (lift K XF) := by
 have G_boxes : ZT P w K mg base CX0 2 T.UH T.UK ["_law_pen_here"] (lift K Ka) := Mq T
 have G_draw : ZT P w K mg base CX0 1 T.JQ T.JT ["_law_pen_here", "_law_many"] (lift K JS) := Jo T
 have G_laid : ZT P w K mg base CX0 1 T.GS T.GP ["_law_frame_here", "_law_spot_here", "_law_more"] (lift K Kb) := Hx T
 refine okD T.JM.F QZ (fun xs M Φ h => by obtain ⟨_, _, rfl, _⟩ := ZL h; rfl) fun cdv A outer s H E hr => ⟨_, (Ze (Zk 2 QZ.nd (Zi G_boxes (hr.mono (by first | decide | omega)) rfl T.XT.m T.XT.F.kp T.XT.b Zx (Za (Zb 0) Zd)))
 (Ze (Zk 3 QZ.nd ((QX hr) (Zb 1) ZE))
 (Ze (Vs (Zb 2) (JR (n := 2) rfl (ZG (Zl 9 QZ.nd) (ZG (Zl 10 QZ.nd) Q0))) (Zg (QL (YV ((QX hr) (Zb 1) ZE) (Qg (Za (Zb 9) (Za (Zb 10) Zd)))))) PassesOwn.never rfl)
 (Ze (Zk 4 QZ.nd (Zo GF (Qf (Za ZE (Za ZE (Za ZE Zd)))) ((QX hr) (Zb 1) ZE)))
 (Ze (Zk 5 QZ.nd (Zh (Zb 4) (Zi G_draw (hr.mono (by first | decide | omega)) rfl T.Zj.m T.Zj.F.kp T.Zj.b Zx (Za (Zb 0) (Za (Zm VO rfl T.Y0 JO (Za (Zb 4) Zd)) Zd)))))
 (Ze (Zk 6 QZ.nd (Z5 VD rfl T.Yu Vf (Za (Qc false (Zy (sc := Zf Yj) (XN := ["_law_pen_here", "_law_house_here", "_law_boxes_here", "_law_frame_here", "_law_outers", "_law_outer", "_law_shape", "_law_wobble", "_law_far", "_law_low", "_law_top"]) (N := ["_law_low", "_law_top", "_law_frame_here"]) (ix := [none, none, some 3]) rfl rfl (by decide +kernel)) (Q6 (Zb 2)) (fun C ex s H => (JR (n := 2) rfl (ZG (Zl 0 (show List.Nodup (["_law_low", "_law_top", "_law_frame_here"] : List Str) by decide +kernel)) (ZG (Zl 1 (show List.Nodup (["_law_low", "_law_top", "_law_frame_here"] : List Str) by decide +kernel)) Q0)))) (fun C ex s H => Z6) (fun C ex s H => (ZH (Za (Zi G_laid (hr.mono (by first | decide | omega)) rfl T.JN.m T.JN.F.kp T.JN.b Zx (Za (Zb 2) (Za (Zb 0) (Za Zc Zd)))) (Za (Zi G_laid (hr.mono (by first | decide | omega)) rfl T.JN.m T.JN.F.kp T.JN.b Zx (Za (Zb 2) (Za (Zb 1) (Za (Zo Z9 (Zh (Zb 2) Zc) Zc) Zd)))) Zd)))) rfl) Zd)))
 (Ze (Zk 7 QZ.nd (Zh (Qf (Za Zc (Za Zc (Za Zc (Za Zc (Za Zc (Za Zc Zd))))))) (Zi G_draw (hr.mono (by first | decide | omega)) rfl T.Zj.m T.Zj.F.kp T.Zj.b Zx (Za (Zb 0) (Za Zc Zd)))))
 (Ze (Zk 8 QZ.nd (Zo Jk (Zb 7) (Zh (Zb 3) Zc)))
 (Zg (Zs (ZH (Za (Zb 5) (Za (Zb 6) (Za (Zh (Qf (Za (Zb 7) (Za (Zb 8) (Za (Zo Z9 (Zo ZJ (Zb 8) (Zh (Zb 3) Zc)) Zc) Zd)))) (Zi G_draw (hr.mono (by first | decide | omega)) rfl T.Zj.m T.Zj.F.kp T.Zj.b Zx (Za (Zb 0) (Za Zc Zd)))) Zd)))))))))))))), fun xs M Φ h => ?_⟩
 replace h := ZL h
 obtain ⟨x1, x2, rfl, h⟩ := h
 replace h := ZU h
 obtain ⟨p, rfl, h⟩ := h
 replace h := ZU h
 obtain ⟨q, rfl, c, ls, n, ⟨hp, hs, hn⟩, h⟩ := h
 walk_at "hd"
 walk_at "rk"
 refine ⟨hp, fun bs M1 hl hb f1 => ?_⟩
 have hs1 := hs.fr f1
 obtain ⟨f, ox, oy, eq, hf⟩ := hs1.h1
 obtain ⟨cs, ec, hc, l1, l2⟩ := hs1.h2
 walk_at "hd"
 walk_at "rk"
 rw [eq]
 walk_at "rk"
 walk_at "hd"
 walk_at "rk"
 refine ⟨fun i Δ M' => ∃ (k9 k10 : Option DV) (ks : List (Int × Int)), Δ = [some (.own p), some (.own q), some (.dat (.list (bs.map bD))), some (.dat (.tuple [.int f, .int ox, .int oy])), none, none, none, none, none, k9, k10] ∧ M' c = some (.lst (ks.map cD)) ∧ (∀ k ∈ ks, Sm k) ∧ (1 ≤ ks.length ∧ ks.length ≤ n + 2 * i) ∧ M' q = some (hsO ls c f ox oy) ∧ Fh p c M1 M',
  ⟨_, _, cs, rfl, ec, hc, ⟨l1, by omega⟩, eq, (Fr.refl f1.1).fh⟩, ?_, ?_⟩
 ·rintro i d Δ M' hd ⟨k9, k10, ks, rfl, hk, hk1, hk2, hq, hF⟩
  obtain ⟨b, eb, rfl⟩ := ZF hd
  have hi : i < bs.length := (List.getElem?_eq_some_iff.mp eb).1
  have hbx := hb b (List.mem_of_getElem? eb)
  unfold Bx at hbx
  walk_at "rk"
  rw [hq]
  walk_at "rk"
  rw [hk]
  walk_at "rk"
  intro b' hb'
  have n4 : b' ≠ c := fun e => by
   rw [e, hk] at hb'
   cases hb'
  have n5 : q ≠ b' := fun e => by
   rw [← e, hq] at hb'
   cases hb'
  rw [Zp (Ne.symm n4), hk]
  walk_at "rk"
  refine ⟨n4, by rw [List.length_map]; omega, _, _, ks ++ [(b.x, b.y), (b.X, b.Y)], rfl, by rw [VF (Ne.symm n4), Zn, List.map_append]; rfl, fun k hk' => ?_, ?_, by rw [VF n5, Zp (Ne.symm hs.cq), Zp n5]; exact hq, hF.ext (Ne.symm hs.cp) hb'⟩
  ·rcases List.mem_append.mp hk' with hk' | hk'
   ·exact hk1 k hk'
   ·rcases List.mem_cons.mp hk' with rfl | hk'
    ·unfold Sm
     dsimp only
     omega
    ·rw [List.mem_singleton.mp hk']
     unfold Sm
     dsimp only
     omega
  ·rw [List.length_append]
   exact ⟨by omega, Nat.add_le_add_right hk2.2 2⟩
 ·rintro Δ M' ⟨k9, k10, ks, rfl, hk, hk1, hk2, hq, hF⟩
  walk_at "hd"
  walk_at "rk"
  rw [hq]
  walk_at "rk"
  have lb := List.length_map (as := bs) bD
  have ll := List.length_map (as := ls) PyData.str
  have l6 := hs.nm.1
  rw [lb] at hk2
  have hs2 : Hs M' p q c ls (n + 12) := ⟨⟨f, ox, oy, hq, hf⟩, ⟨ks, hk, hk1, hk2.1, by omega⟩, hs.qp, hs.cp, hs.cq, hs.nm⟩
  refine ⟨by omega, ?_⟩
  walk_at "hd"
  walk_at "rk"
  refine ⟨⟨by omega, by omega⟩, hF.1, fun r2 M2 a2 b2 f2 => ?_⟩
  refine Zde (l := Str.ofString "" :: Str.ofString "" :: Str.ofString "" :: ls) (g := PyData.str) a2 (by simp only [List.length_cons]; omega) fun ou hou => ?_
  have hou : ou = Str.ofString "" ∨ ou ∈ ls := by
   rcases List.mem_cons.mp hou with e | hou
   ·exact .inl e
   ·rcases List.mem_cons.mp hou with e | hou
    ·exact .inl e
    ·rcases List.mem_cons.mp hou with e | hou
     ·exact .inl e
     ·exact .inr hou
  walk_at "hd"
  walk_at "rk"
  refine ⟨by omega, fun i acc M' => acc = (bs.take i).map (fun b => bD (layB f ox oy b)) ∧ M' = M2, ⟨rfl, rfl⟩, ?_, ?_⟩
  ·rintro i d acc M' hd ⟨rfl, rfl⟩
   obtain ⟨b, eb, rfl⟩ := ZF hd
   have hbx := hb b (List.mem_of_getElem? eb)
   unfold Bx at hbx
   walk_at "rk"
   refine ⟨by omega, by omega, ?_⟩
   rw [← take_snoc _ eb]
   rfl
  ·rintro acc M3 ⟨rfl, rfl⟩
   rw [lb, List.take_length]
   walk_at "hd"
   walk_at "rk"
   refine ⟨f2.1, fun r4 M4 a4 b4 f4 => tab (l := [0, 1, 0, 2, 3, 1]) (fun w => 0 ≤ w ∧ w ≤ 3) a4 (by simp only [List.length_cons, List.length_nil]; omega) (by decide) fun w hw => ?_⟩
   walk_at "hd"
   walk_at "rk"
   unfold Frm at hf
   have wf : 0 ≤ w * f := Int.mul_nonneg hw.1 (by omega)
   have wf2 := YO (x := w) (by omega) hf.1
   have wf3 := Int.mul_le_mul_of_nonneg_right hw.2 (show 0 ≤ f by omega)
   refine ⟨.inl (by omega), ?_⟩
   subst_vars
   walk_at "rk"
   refine ⟨f4.1, fun r5 M5 a5 b5 f5 => tab (l := [w, w * f, w * f + f - 1]) (fun w => 0 ≤ w ∧ w ≤ 10000000000) a5 (by simp only [List.length_cons, List.length_nil]; omega) (fun x hx => ?_) fun wb hwb => ?_⟩
   ·simp only [List.mem_cons, List.not_mem_nil, or_false] at hx
    omega
   ·have F := (f2.trans f4).trans f5
    have e := List.map_map (f := layB f ox oy) (g := bD) (l := bs)
    have h' := h ou (bs.map (layB f ox oy)) wb M5 hou ⟨by rw [List.length_map]; omega, by rw [List.length_map]; omega, fun b hb' => ?_⟩ (fun b hb' => ?_) hwb (hs2.fr F) ((f1.fh.trans hF).trans F.fh)
    ·rw [e] at h'
     exact h'
    ·obtain ⟨b0, hb0, rfl⟩ := List.mem_map.mp hb'
     have hbx := hb b0 hb0
     exact JX.mpr ⟨E8 ox hbx.1.1 hf.1.1, E8 oy hbx.1.2 hf.1.1⟩
    ·obtain ⟨b0, hb0, rfl⟩ := List.mem_map.mp hb'
     have hbx := hb b0 hb0
     unfold Bx at hbx
     have m1 := YO (x := b0.x) (by omega) hf.1
     have m2 := YO (x := b0.y) (by omega) hf.1
     have m3 := YO (x := b0.X) (by omega) hf.1
     have m4 := YO (x := b0.Y) (by omega) hf.1
     unfold Lim layB
     dsimp only
     omega
theorem S2 (T : Tx K mg) : ZT P w K mg base CX0 2 T.HF T.Hd ["_law_pen_here", "_law_house_here"] (lift K Gu) := by
 have G_laid : ZT P w K mg base CX0 1 T.GS T.GP ["_law_frame_here", "_law_spot_here", "_law_more"] (lift K Kb) := Hx T
 have G_draw : ZT P w K mg base CX0 1 T.JQ T.JT ["_law_pen_here", "_law_many"] (lift K JS) := Jo T
 refine okD T.Bi.F Yq (fun xs M Φ h => by obtain ⟨_, _, rfl, _⟩ := ZL h; rfl) fun cdv A outer s H E hr => ⟨_, (Ze (Zk 2 Yq.nd (Zh ((QX hr) (Zb 1) ZE) (Zi G_draw (hr.mono (by first | decide | omega)) rfl T.Zj.m T.Zj.F.kp T.Zj.b Zx (Za (Zb 0) (Za (Zm VO rfl T.Y0 JO (Za ((QX hr) (Zb 1) ZE) Zd)) Zd)))))
 (Ze (Zk 3 Yq.nd (Zh (Qf (Za (Zb 2) (Za (Zh ((QX hr) (Zb 1) ZE) (Zi G_draw (hr.mono (by first | decide | omega)) rfl T.Zj.m T.Zj.F.kp T.Zj.b Zx (Za (Zb 0) (Za (Zm VO rfl T.Y0 JO (Za ((QX hr) (Zb 1) ZE) Zd)) Zd)))) Zd))) (Zi G_draw (hr.mono (by first | decide | omega)) rfl T.Zj.m T.Zj.F.kp T.Zj.b Zx (Za (Zb 0) (Za Zc Zd)))))
 (Ze (Zk 4 Yq.nd (ZH (Za (Zo Z9 (Zo ZJ (Zh (Zb 2) Zc) (Zi G_draw (hr.mono (by first | decide | omega)) rfl T.Zj.m T.Zj.F.kp T.Zj.b Zx (Za (Zb 0) (Za Zc Zd)))) Zc) (Za (Zo Z9 (Zo ZJ (Zh (Zb 3) Zc) (Zi G_draw (hr.mono (by first | decide | omega)) rfl T.Zj.m T.Zj.F.kp T.Zj.b Zx (Za (Zb 0) (Za Zc Zd)))) Zc) Zd))))
 (Ze (Zk 5 Yq.nd ((QX hr) (Zb 1) ZE))
 (Zg (Zs (Zi G_laid (hr.mono (by first | decide | omega)) rfl T.JN.m T.JN.F.kp T.JN.b Zx (Za (Zb 5) (Za (Zb 4) (Za (Zh (Qf (Za Zc (Za (Zo Z9 (Zh (Zb 5) Zc) Zc) (Za (Zo GJ (Zh (Zb 5) Zc) Zc) Zd)))) (Zi G_draw (hr.mono (by first | decide | omega)) rfl T.Zj.m T.Zj.F.kp T.Zj.b Zx (Za (Zb 0) (Za Zc Zd)))) Zd)))))))))), fun xs M Φ h => ?_⟩
 replace h := ZL h
 obtain ⟨x1, x2, rfl, h⟩ := h
 replace h := ZU h
 obtain ⟨p, rfl, h⟩ := h
 replace h := ZU h
 obtain ⟨q, rfl, c, ls, n, ⟨hp, hs, hn⟩, h⟩ := h
 obtain ⟨f, ox, oy, eq, hf⟩ := hs.h1
 obtain ⟨cs, ec, hc, l1, l2⟩ := hs.h2
 walk_at "hd"
 walk_at "rk"
 rw [eq]
 walk_at "rk"
 rw [ec]
 walk_at "rk"
 have cl := List.length_map (as := cs) cD
 refine ⟨⟨by omega, by omega⟩, hp, fun r1 M1 a1 b1 f1 => ?_⟩
 have e1 := f1.own eq hs.qp
 have c1 := f1.own ec hs.cp
 rw [c1]
 walk_at "rk"
 refine Zde a1 (by omega) fun k1 hk1 => ?_
 have s1 := hc k1 hk1
 unfold Sm at s1
 unfold cD
 walk_at "hd"
 walk_at "rk"
 rw [e1]
 walk_at "rk"
 rw [c1]
 walk_at "rk"
 refine ⟨⟨by omega, by omega⟩, f1.1, fun r2 M2 a2 b2 f2 => ?_⟩
 have e2 := f2.own e1 hs.qp
 have c2 := f2.own c1 hs.cp
 rw [c2]
 walk_at "rk"
 refine Zde a2 (by omega) fun k2 hk2 => ⟨f2.1, fun r3 M3 a3 b3 f3 => ?_⟩
 have e3 := f3.own e2 hs.qp
 refine Zde (l := [k1, k2]) (g := cD) a3 (by simp only [List.length_cons, List.length_nil]; omega) fun k3 hk3 => ?_
 have s3 : Sm k3 := by
  rcases List.mem_cons.mp hk3 with rfl | hk3
  ·exact hc _ hk1
  ·rw [List.mem_singleton.mp hk3]
   exact hc _ hk2
 unfold Sm at s3
 unfold cD
 walk_at "hd"
 walk_at "rk"
 refine ⟨f3.1, fun r4 M4 a4 b4 f4 => ⟨f4.1, fun r5 M5 a5 b5 f5 => ?_⟩⟩
 walk_at "hd"
 walk_at "rk"
 rw [f5.own (f4.own e3 hs.qp) hs.qp]
 walk_at "rk"
 subst_vars
 walk_at "rk"
 refine ⟨⟨by decide, by decide⟩, f5.1, fun r6 M6 a6 b6 f6 => tab (l := [0, f - 1, f / 2]) (fun _ => True) a6 (by simp only [List.length_cons, List.length_nil]; omega) (fun _ _ => trivial) fun m _ => ?_⟩
 walk_at "rk"
 exact ⟨by omega, h _ _ _ (((((f1.trans f2).trans f3).trans f4).trans f5).trans f6)⟩
theorem Lf (T : Tx K mg) (n : Nat) : ZT P w K mg base CX0 (1 + n) T.YR T.Yy ["_law_found", "_law_due"] (lift K (VB n)) := by
 refine Nat.rec (motive := fun n => ZT P w K mg base CX0 (1 + n) T.YR T.Yy ["_law_found", "_law_due"] (lift K (VB n))) ?_ (fun n G_alike => ?_) n
 ·exact ZbO W3
 show ZT P w K mg base CX0 (1 + n + 1) T.YR T.Yy ["_law_found", "_law_due"] (lift K (VB (n + 1)))
 refine okD T.J8.F Nk (fun xs M Φ h => by obtain ⟨_, _, rfl, _⟩ := ZL h; rfl) fun cdv A outer s H E hr => ⟨_, (Ze (Qm (Vj (FL rfl T.Z1 ZV rfl T.WC YJ rfl T.Yu Vf (Zb 1))) (Ze (Qm (DW.dt (EJ (WN (Vj (FL rfl T.Z1 ZV rfl T.WC YJ rfl T.Yu Vf (Zb 0)))) (Wm (ZN (ZaW hr) (Zm (RD (Bz _)) rfl T.Z1 ZV (Za (Zb 0) (Za (Cv rfl T.WC YJ) Zd))) (Zm (WK (Bz _)) rfl T.Z1 ZV (Za (Zb 1) (Za (Cv rfl T.WC YJ) Zd))))))) (Zg (Zs YE)) ZI)
 (Zg (Zs (Yn (QW (Q5 hr) (Zm VO rfl T.Y0 JO (Za (Zb 0) Zd)) (Zm VO rfl T.Y0 JO (Za (Zb 1) Zd))) (YG (Zm (Zc4 rfl) rfl T.Zet Zbg (Za (G2 false (Zy (sc := Zf J2) (XN := ["_law_found", "_law_due"]) (N := ["_law_one", "_law_other"]) (ix := [none, none]) rfl rfl (by decide +kernel)) (Ru rfl T.ZdO (Za (Zb 0) (Za (Zb 1) Zd))) (fun C ex s H => (JR (n := 2) rfl (ZG (Zl 0 (show List.Nodup (["_law_one", "_law_other"] : List Str) by decide +kernel)) (ZG (Zl 1 (show List.Nodup (["_law_one", "_law_other"] : List Str) by decide +kernel)) Q0)))) (fun C ex s H => Z6) (fun C ex s H => (Zi G_alike (hr.mono (by first | decide | omega)) rfl T.J8.m T.J8.F.kp T.J8.b Zx (Za (Zb 0) (Za (Zb 1) Zd)))) rfl) Zd))))))) ZI)
 (Ze (Qm (ZN O3 (Zb 1) WO) (Zg (Zs (QW O3 (Zb 0) WO))) ZI)
 (Ze (Qm (Vj (Zm (WK (EA _)) rfl T.Z1 ZV (Za (Zb 1) (Za (Cv rfl T.Zcl N9) Zd)))) (Zg (Zs (Yn (Zm (WK (EA _)) rfl T.Z1 ZV (Za (Zb 0) (Za (Cv rfl T.Zcl N9) Zd))) (YG (QW (Q5 hr) (Zb 0) (Zb 1)))))) ZI)
 (Zg (Zs (Yn (Zm (WK (Rp _)) rfl T.Z1 ZV (Za (Zb 0) (Za (Cv rfl T.B3 Y9) Zd))) (Yn (ZcT (Zm (WK (Me _)) rfl T.Z1 ZV (Za (Zb 0) (Za (Cv rfl T.Zar RY) Zd)))) (YG (QW (Q5 hr) (Zb 0) (Zb 1)))))))))), fun xs M Φ h => ?_⟩
 replace h := ZL h
 obtain ⟨x1, x2, rfl, h⟩ := h
 obtain ⟨m, em, hh⟩ := h
 cases em
 rcases hh with ⟨s, t, rfl, rfl, h⟩ | ⟨q, ss, ts, k, rfl, rfl, hq, rfl, ⟨l1, l2⟩, h⟩
 ·walk_at "rk"
  exact h
 ·have len := List.length_map (as := ss) PyData.str
  have len' := List.length_map (as := ts) PyData.str
  walk_at "rk"
  rw [hq]
  walk_at "rk"
  rw [if_neg (by decide), zip_map]
  refine Zz (fun z => ?_) fun z => ?_
  ·have zl : ((ss.zip ts).map fun p => PyData.tuple [.str p.1, .str p.2]).length = ss.length := by
    rw [List.length_map, List.length_zip]
    omega
   refine ⟨by omega, fun i acc M' => acc = ((ss.zip ts).take i).map (fun p => PyData.bool (decide (p.1 = p.2))) ∧ M' = M, ?_, ⟨rfl, rfl⟩, ?_, ?_⟩
   ·rintro i acc M' ⟨rfl, rfl⟩
    rw [hq]
    exact rfl
   ·rintro i d acc M' hd ⟨rfl, rfl⟩
    obtain ⟨p, ep, rfl⟩ := ZF hd
    walk_at "rk"
    refine ⟨k, rfl, .inl ⟨p.1, p.2, rfl, rfl, ?_⟩⟩
    rw [← take_snoc _ ep]
   ·rintro acc M' ⟨rfl, rfl⟩
    have zz : (ss.zip ts).length = ss.length := by
     rw [List.length_zip]
     omega
    rw [zl, ← zz, List.take_length]
    refine ⟨(ss.zip ts).map fun p => decide (p.1 = p.2), by rw [List.map_map]; rfl, ?_⟩
    rw [List.all_map]
    have e := all_eq (ss := ss) (ts := ts) (by omega)
    rw [← e] at h
    exact h
  ·have n : ss ≠ ts := fun e => z (by rw [e])
   rw [decide_eq_false n] at h
   exact h
theorem Na (T : Tx K mg) : ZT P w K mg base CX0 1 T.Gf T.GH ["_law_shape", "_law_x", "_law_y"] (lift K Hg) := by
 refine okD T.X1.F Nu (fun xs M Φ h => by obtain ⟨_, _, _, rfl, _⟩ := Qn h; rfl) fun cdv A outer s H E hr => ⟨_, (Zg (Zs (Zm (ZbL rfl) rfl T.Zeb Za0 (Za (Qc false (Zy (sc := Zf J9) (XN := ["_law_shape", "_law_x", "_law_y"]) (N := ["_law_low", "_law_top", "_law_x", "_law_y"]) (ix := [none, none, some 1, some 2]) rfl rfl (by decide +kernel)) (Yk (Zb 0)) (fun C ex s H => (JR (n := 2) rfl (ZG (Zl 0 (show List.Nodup (["_law_low", "_law_top", "_law_x", "_law_y"] : List Str) by decide +kernel)) (ZG (Zl 1 (show List.Nodup (["_law_low", "_law_top", "_law_x", "_law_y"] : List Str) by decide +kernel)) Q0)))) (fun C ex s H => Z6) (fun C ex s H => (Yn (Bv UC UC (Zh (Zb 0) Zc) (Zb 2) (Zh (Zb 1) Zc)) (YG (Bv UC UC (Zh (Zb 0) Zc) (Zb 3) (Zh (Zb 1) Zc))))) rfl) Zd)))), fun xs M Φ h => ?_⟩
 replace h := Qn h
 obtain ⟨x1, x2, x3, rfl, h⟩ := h
 replace h := YL h
 obtain ⟨bs, rfl, h⟩ := h
 replace h := ZM h
 obtain ⟨u, rfl, h⟩ := h
 replace h := ZM h
 obtain ⟨v, rfl, h6, h⟩ := h
 have len := List.length_map (as := bs) bD
 walk_at "rk"
 refine ⟨by omega, fun i acc M' => acc = (bs.take i).map (fun b => PyData.bool (hasB b u v)) ∧ M' = M, ⟨rfl, rfl⟩, ?_, ?_⟩
 ·rintro i d acc M' hd ⟨rfl, rfl⟩
  obtain ⟨b, eb, rfl⟩ := ZF hd
  walk_at "rk"
  rw [← take_snoc _ eb]
  have e : hasB b u v = (decide (b.x ≤ u) && (decide (u ≤ b.X) && (decide (b.y ≤ v) && decide (v ≤ b.Y)))) := by
   unfold hasB
   simp only [Bool.decide_and]
  rw [e]
  cases decide (b.x ≤ u) <;> cases decide (u ≤ b.X) <;> cases decide (b.y ≤ v) <;> simp only [Bool.true_and, Bool.false_and, if_true, Bool.false_eq_true, if_false] <;> exact ⟨rfl, rfl⟩
 ·rintro acc M' ⟨rfl, rfl⟩
  rw [len, List.take_length]
  refine ⟨bs.map fun b => hasB b u v, by rw [List.map_map]; rfl, ?_⟩
  rw [List.any_map]
  exact h
theorem FQ (T : Tx K mg) : ZT P w K mg base CX0 2 T.XR T.Kf ["_law_shape", "_law_wobble", "_law_spot_here"] (lift K Ge) := by
 have G_l_has : ZT P w K mg base CX0 1 T.Gf T.GH ["_law_shape", "_law_x", "_law_y"] (lift K Hg) := Na T
 refine okG T.V1.F QM (fun xs M Φ h => by obtain ⟨_, _, _, rfl, _⟩ := Qn h; rfl) fun cdv A outer s H E hr => ⟨_, (Ze (Zk 3 QM.nd (Qg Zd))
 (Ze (Je rfl T.Qw (Za Zc Zd) (Zl 4 QM.nd) (Ze (Zk 7 QM.nd (Zo Z9 (Zh (Zb 2) (Zb 4)) (Zb 1)))
 (Ze (Zk 8 QM.nd (Zo GF (Qc false (Zy (sc := Zf Qt) (XN := ["_law_shape", "_law_wobble", "_law_spot_here", "_law_places", "_law_way", "_law_here", "_law_x", "_law_first", "_law_cuts"]) (N := ["_law_low", "_law_top", "_law_way"]) (ix := [none, none, some 4]) rfl rfl (by decide +kernel)) (Yk (Zb 0)) (fun C ex s H => (JR (n := 2) rfl (ZG (Zl 0 (show List.Nodup (["_law_low", "_law_top", "_law_way"] : List Str) by decide +kernel)) (ZG (Zl 1 (show List.Nodup (["_law_low", "_law_top", "_law_way"] : List Str) by decide +kernel)) Q0)))) (fun C ex s H => Z6) (fun C ex s H => (Zh (Zb 0) (Zb 2))) rfl) (Qc false (Zy (sc := Zf Qt) (XN := ["_law_shape", "_law_wobble", "_law_spot_here", "_law_places", "_law_way", "_law_here", "_law_x", "_law_first", "_law_cuts"]) (N := ["_law_low", "_law_top", "_law_way"]) (ix := [none, none, some 4]) rfl rfl (by decide +kernel)) (Yk (Zb 0)) (fun C ex s H => (JR (n := 2) rfl (ZG (Zl 0 (show List.Nodup (["_law_low", "_law_top", "_law_way"] : List Str) by decide +kernel)) (ZG (Zl 1 (show List.Nodup (["_law_low", "_law_top", "_law_way"] : List Str) by decide +kernel)) Q0)))) (fun C ex s H => Z6) (fun C ex s H => (Zo ZJ (Zh (Zb 1) (Zb 2)) Zc)) rfl)))
 (Zg (QL (QP (Zb 3) (Zo GF (Qf (Za (Zb 7) Zd)) (Qc false (Zy (sc := Zf Qt) (XN := ["_law_shape", "_law_wobble", "_law_spot_here", "_law_places", "_law_way", "_law_here", "_law_x", "_law_first", "_law_cuts"]) (N := ["_law_cut", "_law_first", "_law_wobble", "_law_spot_here", "_law_way"]) (ix := [none, some 7, some 1, some 2, some 4]) rfl rfl (by decide +kernel)) (Q6 (Zb 8)) (fun C ex s H => (Zl 0 (show List.Nodup (["_law_cut", "_law_first", "_law_wobble", "_law_spot_here", "_law_way"] : List Str) by decide +kernel))) (fun C ex s H => (Xw (Ni Eh UC (Zb 1) (Zb 0) (Zo ZJ (Zh (Zb 3) (Zb 4)) (Zb 2))))) (fun C ex s H => (Zb 0)) rfl))))))) PassesOwn.never rfl)
 (Ze (Zk 5 QM.nd (Qg Zd))
 (Ze (Vs (Zh (Zb 3) Zc) (Zl 6 QM.nd) (Zg (QL (YV (Zb 5) (Qc true (Zy (sc := Zf Qt) (XN := ["_law_shape", "_law_wobble", "_law_spot_here", "_law_places", "_law_way", "_law_here", "_law_x", "_law_first", "_law_cuts"]) (N := ["_law_y", "_law_shape", "_law_x"]) (ix := [none, some 0, some 6]) rfl rfl (by decide +kernel)) (Q6 (Zh (Zb 3) Zc)) (fun C ex s H => (Zl 0 (show List.Nodup (["_law_y", "_law_shape", "_law_x"] : List Str) by decide +kernel))) (fun C ex s H => Z6) (fun C ex s H => (Zi G_l_has (hr.mono (by first | decide | omega)) rfl T.X1.m T.X1.F.kp T.X1.b Zx (Za (Zb 1) (Za (Zb 2) (Za (Zb 0) Zd))))) rfl)))) PassesOwn.never rfl)
 (Ze (Qm (ZN (E7 hr) YE (Zb 5)) (Zg (Zs ZE)) ZI)
 (Zg (Zs (Zh (Qf (Za ZE (Za ZE Zd))) (Z5 Wd rfl T.B3 Y9 (Za (QW (Hv hr) YE (Zb 5)) Zd)))))))))), fun xs M Φ h => ?_⟩
 replace h := Qn h
 obtain ⟨x1, x2, x3, rfl, h⟩ := h
 replace h := YL h
 obtain ⟨bs, rfl, h⟩ := h
 replace h := ZM h
 obtain ⟨wb, rfl, h⟩ := h
 replace h := JU h
 obtain ⟨u, v, rfl, ⟨hs, hw⟩, h⟩ := h
 have len := List.length_map (as := bs) bD
 have h6 := hs.2.1
 walk_at "hd"
 walk_at "rk"
 intro p hp
 walk_at "hd"
 walk_at "rk"
 refine ⟨⟨by decide, by decide⟩, fun i Δ M' => ∃ (k4 k7 k8 : Option DV), Δ = [some (.dat (.tuple (bs.map bD))), some (.dat (.int wb)), some (.dat (.tuple [.int u, .int v])), some (.own p), k4, none, none, k7, k8] ∧ M' = Zv M p (.lst ((List.range i).map fun j => .list ((YF bs u v wb j).map PyData.int))), ⟨_, _, _, rfl, rfl⟩, ?_, ?_⟩
 ·rintro i Δ M' hi ⟨k4, k7, k8, rfl, rfl⟩
  rw [ZY]
  walk_at "hd"
  walk_at "rk"
  rw [G0 hi]
  walk_at "rk"
  walk_at "hd"
  walk_at "rk"
  refine ⟨by omega, fun j acc M2 => acc = (bs.take j).map (fun b => PyData.int (if i = 0 then b.x else b.y)) ∧ M2 = Zv M p (.lst ((List.range i).map fun j => .list ((YF bs u v wb j).map PyData.int))), ⟨rfl, rfl⟩, ?_, ?_⟩
  ·rintro j d acc M2 hd ⟨rfl, rfl⟩
   obtain ⟨b, eb, rfl⟩ := ZF hd
   walk_at "rk"
   rw [G0 hi, ← take_snoc _ eb]
  ·rintro acc M2 ⟨rfl, rfl⟩
   rw [len, List.take_length]
   refine ⟨by omega, fun j acc M2 => acc = (bs.take j).map (fun b => PyData.int ((if i = 0 then b.X else b.Y) + 1)) ∧ M2 = Zv M p (.lst ((List.range i).map fun j => .list ((YF bs u v wb j).map PyData.int))), ⟨rfl, rfl⟩, ?_, ?_⟩
   ·rintro j d acc M2 hd ⟨rfl, rfl⟩
    obtain ⟨b, eb, rfl⟩ := ZF hd
    walk_at "rk"
    rw [G0 hi]
    walk_at "rk"
    rw [← take_snoc _ eb]
   ·rintro acc M2 ⟨rfl, rfl⟩
    have ec : (bs.map fun b => PyData.int (if i = 0 then b.x else b.y)) ++ (bs.map fun b => PyData.int ((if i = 0 then b.X else b.Y) + 1)) = (Ck i bs).map PyData.int := by
     unfold Ck
     rw [List.map_append, List.map_map, List.map_map]
     rfl
    have lc : (Ck i bs).length ≤ 12 := by
     unfold Ck
     rw [List.length_append, List.length_map, List.length_map]
     omega
    have lm := List.length_map (as := Ck i bs) PyData.int
    rw [List.take_length, ec]
    refine ⟨by rw [List.length_map, List.length_map]; omega, ?_⟩
    subst_vars
    walk_at "rk"
    refine ⟨by omega, fun j acc M2 => acc = (((Ck i bs).take j).filter fun c => decide ((if i = 0 then u else v) - wb < c) && decide (c ≤ (if i = 0 then u else v) + wb)).map PyData.int ∧ M2 = Zv M p (.lst ((List.range i).map fun j => .list ((YF bs u v wb j).map PyData.int))), ⟨rfl, rfl⟩, ?_, ?_⟩
    ·rintro j d acc M2 hd ⟨rfl, rfl⟩
     obtain ⟨c, ec, rfl⟩ := ZF hd
     have e : (Ck i bs).take (j + 1) = (Ck i bs).take j ++ [c] := by rw [List.take_succ, ec]; rfl
     walk_at "rk"
     rw [G0 hi]
     walk_at "rk"
     rw [e, List.filter_append, List.map_append]
     exact Ry
    ·rintro acc M2 ⟨rfl, rfl⟩
     rw [lm, List.take_length]
     have fl := List.length_filter_le (fun c => decide ((if i = 0 then u else v) - wb < c) && decide (c ≤ (if i = 0 then u else v) + wb)) (Ck i bs)
     refine ⟨by rw [List.length_map]; omega, ?_⟩
     rw [Zn, UL]
     refine ⟨by rw [List.length_map, List.length_range]; omega, _, _, _, rfl, ?_⟩
     rw [WD, List.range_succ, List.map_append]
     rfl
 ·rintro Δ M' ⟨k4, k7, k8, rfl, rfl⟩
  walk_at "hd"
  walk_at "rk"
  intro q hq
  have nq : q ≠ p := fun e => by
   rw [e, Zn] at hq
   cases hq
  have eP : ∀ o, Zv (Zv M p (.lst ((List.range 2).map fun j => .list ((YF bs u v wb j).map PyData.int)))) q o p = some (.lst [.list ((YF bs u v wb 0).map PyData.int), .list ((YF bs u v wb 1).map PyData.int)]) := fun o => by
   rw [Zp (Ne.symm nq), Zn]
   rfl
  walk_at "hd"
  walk_at "rk"
  rw [eP]
  walk_at "rk"
  have pl : ∀ i, (YF bs u v wb i).length ≤ 13 := fun i => by
   unfold YF plc
   have fl := List.length_filter_le (fun c => decide ((if i = 0 then u else v) - wb < c) && decide (c ≤ (if i = 0 then u else v) + wb)) (Ck i bs)
   have lc : (Ck i bs).length ≤ 12 := by
    unfold Ck
    rw [List.length_append, List.length_map, List.length_map]
    omega
   rw [List.length_cons]
   omega
  have p0 := pl 0
  have p1 := pl 1
  have l0 := List.length_map (as := YF bs u v wb 0) PyData.int
  have l1 := List.length_map (as := YF bs u v wb 1) PyData.int
  refine ⟨fun i Δ M' => ∃ k6, Δ = [some (.dat (.tuple (bs.map bD))), some (.dat (.int wb)), some (.dat (.tuple [.int u, .int v])), some (.own p), k4, some (.own q), k6, k7, k8] ∧ M' = Zv (Zv M p (.lst ((List.range 2).map fun j => .list ((YF bs u v wb j).map PyData.int)))) q (.lst ((((YF bs u v wb 0).take i).flatMap fun x => (YF bs u v wb 1).map fun y => anyB bs x y).map PyData.bool)), ⟨_, rfl, rfl⟩, ?_, ?_⟩
  ·rintro i d Δ M' hd ⟨k6, rfl, rfl⟩
   obtain ⟨x, ex, rfl⟩ := ZF hd
   rw [ZY]
   walk_at "rk"
   rw [eP]
   walk_at "rk"
   refine ⟨by omega, fun j acc M2 => acc = ((YF bs u v wb 1).take j).map (fun y => PyData.bool (anyB bs x y)) ∧ M2 = Zv (Zv M p (.lst ((List.range 2).map fun j => .list ((YF bs u v wb j).map PyData.int)))) q (.lst ((((YF bs u v wb 0).take i).flatMap fun x => (YF bs u v wb 1).map fun y => anyB bs x y).map PyData.bool)), ⟨rfl, rfl⟩, ?_, ?_⟩
   ·rintro j d acc M2 hd ⟨rfl, rfl⟩
    obtain ⟨y, ey, rfl⟩ := ZF hd
    walk_at "rk"
    rw [← take_snoc _ ey]
    exact ⟨h6, rfl⟩
   ·rintro acc M2 ⟨rfl, rfl⟩ b hb
    have nb := fresh_ne hb
    rw [l1, List.take_length, Zp (Ne.symm nb), Zn, UL]
    refine ⟨nb, ?_, _, rfl, ?_⟩
    ·have fl := V4 (fun x => (YF bs u v wb 1).map fun y => anyB bs x y) 13 ((YF bs u v wb 0).take i) fun x _ => by rw [List.length_map]; exact p1
     rw [List.length_take] at fl
     rw [List.length_map, List.length_map]
     omega
    ·rw [Fw hb, ← WR (fun x => (YF bs u v wb 1).map fun y => anyB bs x y) ex, List.map_append, List.map_map]
     rfl
  ·rintro Δ M' ⟨k6, rfl, rfl⟩
   rw [l0, List.take_length]
   have e : ((YF bs u v wb 0).flatMap fun x => (YF bs u v wb 1).map fun y => anyB bs x y) = smp bs u v wb := rfl
   rw [e]
   walk_at "hd"
   walk_at "rk"
   rw [(V0 false (smp bs u v wb)).1, (V0 false (smp bs u v wb)).2]
   rw [NQ hw] at h
   refine ⟨rfl, ?_⟩
   by_cases z : false ∈ smp bs u v wb
   ·rw [if_pos z] at h
    rw [decide_eq_true z, if_neg (by decide)]
    subst_vars
    walk_at "rk"
    rw [(V0 true (smp bs u v wb)).1, (V0 true (smp bs u v wb)).2]
    refine ⟨rfl, ?_⟩
    by_cases z' : true ∈ smp bs u v wb
    ·rw [if_pos z'] at h
     rw [decide_eq_true z', if_pos rfl]
     exact O7 hp hq h
    ·rw [if_neg z'] at h
     rw [decide_eq_false z', if_neg Bool.false_ne_true]
     exact O7 hp hq h
   ·rw [if_neg z] at h
    rw [decide_eq_false z, if_pos (by decide)]
    exact O7 hp hq h
theorem FD (T : Tx K mg) : ZT P w K mg base CX0 1 T.Ks T.XM ["_law_lands_here"] (lift K XD) := by
 refine okD T.V8.F Jr (fun xs M Φ h => by obtain ⟨_, rfl, _⟩ := ZS h; rfl) fun cdv A outer s H E hr => ⟨_, (Ze (Zk 1 Jr.nd ES)
 (Ze (Je rfl T.Qw (Za (Zm So rfl T.Y0 JO (Za (Zb 0) Zd)) Zd) (Zl 2 Jr.nd) (Zg (RA (Dj (Zb 0)) (Zl 3 Jr.nd) (Ze (Zk 4 Jr.nd (Zh ((UQ hr) (Zb 0) (Zb 3)) Zc))
 (Zg (Qm (ZN (Q5 hr) (Zb 4) ZE) (Zg (Dc hr (Zb 1) (Zb 3) Zc)) (Zg (Qm (ZN (ZcW hr) (Zb 4) (Zb 1)) (Zg (Dc hr (Zb 1) (Zb 3) (Zo ZJ ((Fb hr) (Zb 1) (Zb 4)) Zc))) ZI))))) PassesOwn.never rfl)) PassesOwn.never rfl)
 (Zg (Zs (Zb 1))))), fun xs M Φ h => ?_⟩
 replace h := ZS h
 obtain ⟨x1, rfl, h⟩ := h
 replace h := ZU h
 obtain ⟨q, rfl, ls, ⟨hT, ho⟩, h⟩ := h
 have hn := ho.NX
 have l8 := ho.1
 have lr := List.length_map (as := ls) ldR
 walk_at "hd"
 walk_at "rk"
 intro r hr0
 have rq : r ≠ q := fun e => hT.ne (by rw [← e]; exact hr0)
 have hT0 : Tab (Zv M r (.dkv [])) q ls := hT.of (Zp (Ne.symm rq))
 walk_at "hd"
 walk_at "rk"
 refine hT0.rd ?_
 rw [show (CF ls).length = ls.length from List.length_map ..]
 walk_at "rk"
 refine ⟨⟨by omega, by omega⟩, fun i Δ M' => ∃ (k2 k3 k4 : Option DV) (ps : List (Key × PyData)), Δ = [some (.own q), some (.own r), k2, k3, k4] ∧ M' r = some (.dkv ps) ∧ Tab M' q ls ∧ (∀ a, a ≠ q → M a ≠ none → M' a = M a) ∧ Tb (ls.map ldR) ps ∧ Full (ls.map ldR) ps i,
  ⟨none, none, none, [], rfl, Zn, hT0, fun a _ ha => Zp fun e => ha (by rw [e]; exact hr0), ⟨by simp, fun k d hk => (nomatch hk)⟩, fun s m hm hr => by have := hm.pos; omega⟩, ?_, ?_⟩
 ·rintro j Δ M' hj ⟨k2, k3, k4, ps, rfl, hps, hT1, hF, ht, hf⟩
  rw [ZY]
  walk_at "rk"
  refine Tab.src (Ψ := fun ds G M1 => Er G _ _ _ ds _ M1) hT1 fun o M1 e1 e2 => ?_
  refine ⟨fun i Δ M' => ∃ (k2 k3 k4 : Option DV) (ps : List (Key × PyData)), Δ = [some (.own q), some (.own r), k2, k3, k4] ∧ M' r = some (.dkv ps) ∧ M' q = some (.fdk o (CF ls)) ∧ (∀ a, a ≠ q → M a ≠ none → M' a = M a) ∧ Tb (ls.map ldR) ps ∧ Full (ls.map ldR) ps j ∧ ∀ (x : Nat) (w : Ld) (m : Nat), x < i → ls[x]? = some w → Lv (ls.map ldR) w.n m → m ≤ j + 1 → Has ps w.n,
   ?_, ⟨_, _, _, ps, rfl, (e2 r rq).trans hps, e1, fun a ha hn => (e2 a ha).trans (hF a ha hn), ht, hf, fun j w m hj => absurd hj (Nat.not_lt_zero _)⟩, ?_, ?_⟩
  ·rintro i Δ M' ⟨k2, k3, k4, ps, _, _, e, _⟩
   exact e
  ·rintro i d Δ M' hd ⟨k2, k3, k4, ps, rfl, hps, hq1, hF1, ht, hf, hj'⟩
   obtain ⟨w, ew, rfl⟩ := ZF hd
   have hw : w ∈ ls := List.mem_of_getElem? ew
   have hwn : w.n ∈ (ls.map ldR).map (·.n) := by
    rw [List.map_map]
    exact List.mem_map_of_mem (f := fun l => (ldR l).n) hw
   have ho' : XI (ls.map ldR) w.n = some w.o := Gi (r := ldR w) hn (List.mem_map_of_mem hw)
   have hlen := ht.len
   have next : ∀ (m : Nat), Lv (ls.map ldR) w.n m → m ≤ ps.length + 1 → ∀ (k2 k3 k4 : Option DV), ∃ (k2' k3' k4' : Option DV) (ps' : List (Key × PyData)), [some (DV.own q), some (.own r), k2, k3, k4] = [some (.own q), some (.own r), k2', k3', k4'] ∧
     OO.dkv (Q2 ps (.inr w.n) (.int m)) = .dkv ps' ∧ Zv M' r (.dkv (Q2 ps (.inr w.n) (.int m))) q = some (.fdk o (CF ls)) ∧ (∀ a, a ≠ q → M a ≠ none → Zv M' r (.dkv (Q2 ps (.inr w.n) (.int m))) a = M a) ∧ Tb (ls.map ldR) ps' ∧ Full (ls.map ldR) ps' j ∧ ∀ (x : Nat) (w : Ld) (m : Nat), x < i + 1 → ls[x]? = some w → Lv (ls.map ldR) w.n m → m ≤ j + 1 → Has ps' w.n := fun m hm hb k2 k3 k4 => by
    refine ⟨k2, k3, k4, _, rfl, rfl, (Zp (Ne.symm rq)).trans hq1, fun a ha hn => (Zp fun e => hn (by rw [e]; exact hr0)).trans (hF1 a ha hn), ht.put hwn hm hb, fun s m' a b => (hf s m' a b).put, fun x w' m' hx ew' a b => ?_⟩
    by_cases e : x = i
    ·rw [e, ew] at ew'
     cases ew'
     exact Has.new
    ·exact (hj' x w' m' (by omega) ew' a b).put
   rw [ZY]
   walk_at "hd"
   walk_at "rk"
   rw [hq1, Ye, Uo ho.nodup hw, OX]
   walk_at "rk"
   subst_vars
   walk_at "rk"
   rw [hps]
   walk_at "rk"
   refine Zz (fun z => ?_) fun z => ?_
   ·refine ⟨by omega, ?_⟩
    exact next 1 (.one (by rw [ho', z])) (by omega) _ _ _
   ·cases q2 : Qp ps (.inr w.o) with
    | none =>
     walk_at "rk"
     refine ⟨_, _, _, ps, rfl, rfl, hq1, hF1, ht, hf, fun x w' m' hx ew' a b => ?_⟩
     by_cases e : x = i
     ·rw [e, ew] at ew'
      cases ew'
      exfalso
      cases a with
      | one e1 => rw [ho'] at e1; exact z (Option.some.inj e1)
      | up e1 _ a =>
       rw [ho'] at e1
       cases e1
       have := D7.mp (hf _ _ a (by omega))
       rw [q2] at this
       cases this
     ·exact hj' x w' m' (by omega) ew' a b
    | some d =>
     obtain ⟨m, rfl, hm, hb⟩ := ht.val q2
     walk_at "rk"
     refine ⟨by omega, ?_⟩
     exact next (m + 1) (.up ho' z hm) (by omega) _ _ _
  ·rintro Δ M' ⟨k2, k3, k4, ps, rfl, hps, hq1, hF1, ht, hf, hj'⟩
   refine ⟨_, _, _, ps, rfl, hps, .inr ⟨o, hq1⟩, hF1, ht, fun s m a b => ?_⟩
   obtain ⟨w, hw, rfl⟩ := a.mem
   obtain ⟨l, hl, rfl⟩ := List.mem_map.mp hw
   obtain ⟨x, hx, ex⟩ := List.mem_iff_getElem.mp hl
   exact hj' x l m (by rw [List.length_map]; exact hx) (by rw [← ex]; exact List.getElem?_eq_getElem hx) a b
 ·rintro Δ M' ⟨k2, k3, k4, ps, rfl, hps, hT1, hF, ht, hf⟩
  subst_vars
  walk_at "rk"
  exact h M' r ps hT1 hF hr0 hps ht (by rw [lr]; simpa using hf)
theorem RX (T : Tx K mg) : ZT P w K mg base CX0 3 T.f_look T.Dv ["_law_lands_here", "_law_held", "_law_spot_here"] (lift K Fc) := by
 have G_levels : ZT P w K mg base CX0 1 T.Ks T.XM ["_law_lands_here"] (lift K XD) := FD T
 have G_l_side : ZT P w K mg base CX0 2 T.XR T.Kf ["_law_shape", "_law_wobble", "_law_spot_here"] (lift K Ge) := FQ T
 refine okD T.BN.F Jd (fun xs M Φ h => by obtain ⟨_, _, _, rfl, _⟩ := Qn h; rfl) fun cdv A outer s H E hr => ⟨_, (Ze (Zk 3 Jd.nd (Zi G_levels (hr.mono (by first | decide | omega)) rfl T.V8.m T.V8.F.kp T.V8.b Zx (Za (Zb 0) Zd)))
 (Ze (Zk 4 Jd.nd (Qg Zd))
 (Ze (Vs (Zm (Cu hr) rfl T.QB Ql (Za (G2 false (Zy (sc := Zf YA) (XN := ["_law_lands_here", "_law_held", "_law_spot_here", "_law_levels_here", "_law_found", "_law_rank", "_law_land_here", "_law_here", "_law_outer", "_law_shape", "_law_wobble"]) (N := ["_law_land_here", "_law_levels_here"]) (ix := [none, some 3]) rfl rfl (by decide +kernel)) (Dj (Zb 3)) (fun C ex s H => (Zl 0 (show List.Nodup (["_law_land_here", "_law_levels_here"] : List Str) by decide +kernel))) (fun C ex s H => Z6) (fun C ex s H => (ZH (Za ((UQ hr) (Zb 1) (Zb 0)) (Za (Zb 0) Zd)))) rfl) Zd)) (JR (n := 2) rfl (ZG (Zl 5 Jd.nd) (ZG (Zl 6 Jd.nd) Q0))) (Ze (YH ((UQ hr) (Zb 0) (Zb 6)) (JR (n := 3) rfl (ZG (Zl 8 Jd.nd) (ZG (Zl 9 Jd.nd) (ZG (Zl 10 Jd.nd) Q0)))))
 (Ze (Zk 7 Jd.nd (Zi G_l_side (hr.mono (by first | decide | omega)) rfl T.V1.m T.V1.F.kp T.V1.b Zx (Za (Zb 9) (Za (Zb 10) (Za (Zb 2) Zd)))))
 (Zg (Qm (DW.dt (WY (DW.dt (EJ (ZN (Q5 hr) (Zb 8) ZE) (Wm (ZN (Hv hr) (Zb 8) (Zb 4))))) (Yo (DW.dt (EJ (ZN (Q5 hr) (Zb 7) ZE) (Wm (DW.dt (WY (ZN (Q5 hr) (Zb 7) ZE) (Yo (ZN (Zbi hr) (Zb 6) (Zb 1))))))))))) (Zg (QL (QP (Zb 4) (Zb 6)))) ZI)))) PassesOwn.never rfl)
 (Zg (Zs (Zm JB rfl T.QB Ql (Za (Zb 4) Zd))))))), fun xs M Φ h => ?_⟩
 replace h := Qn h
 obtain ⟨x1, x2, x3, rfl, h⟩ := h
 replace h := ZU h
 obtain ⟨q, rfl, ss, rfl, h⟩ := h
 replace h := JU h
 obtain ⟨u, v, rfl, ls, ⟨hT, ho, h1, h2⟩, h⟩ := h
 have l8 := ho.1
 walk_at "hd"
 walk_at "rk"
 refine ⟨ls, ⟨hT, ho⟩, fun M1 r ps hT1 hF1 hr0 hps ht hf => ?_⟩
 have rq : r ≠ q := fun e => hT.ne (by rw [← e]; exact hr0)
 obtain ⟨lt, rfl, hlt⟩ := Zbs ho ht hf
 have lt24 : lt.length ≤ 24 := by
  rw [hlt.length_eq]
  have := List.length_filter_le (Ba ls) ls
  omega
 have ltn : (lt.map (·.n)).Nodup := by
  rw [(hlt.map (·.n)).nodup_iff, List.nodup_iff_pairwise_ne, List.pairwise_map]
  exact (ho.2.2.filter _).imp fun hab e => absurd hab (by rw [e]; exact List.lt_irrefl _)
 have lm := List.length_map (as := lt) fun l => ((.inr l.n : Key), PyData.int (lvN ls l))
 walk_at "hd"
 walk_at "rk"
 intro p hp
 have pr : r ≠ p := fun e => by
  rw [← e, hps] at hp
  cases hp
 have pq : q ≠ p := fun e => hT1.ne (by rw [e]; exact hp)
 have hT2 : Tab (Zv M1 p (.lst [])) q ls := hT1.of (Zp pq)
 have hps2 : Zv M1 p (.lst []) r = some (.dkv (lt.map fun l => ((.inr l.n : Key), PyData.int (lvN ls l)))) := (Zp pr).trans hps
 walk_at "hd"
 walk_at "rk"
 refine Rc hps2 fun o => ⟨by rw [List.length_map]; omega, fun i acc M' => acc = (lt.take i).map (pr2 ls) ∧ M' r = some (.fdk o (lt.map fun l => ((.inr l.n : Key), PyData.int (lvN ls l)))) ∧ M' p = some (.lst []) ∧ Tab M' q ls ∧ (∀ a, a ≠ q → M a ≠ none → M' a = M a), ?_, ⟨rfl, Zn, (Zp (Ne.symm pr)).trans Zn, hT2.of (Zp (Ne.symm rq)), fun a ha hn => ?_⟩, ?_, ?_⟩
 ·rintro i acc M' ⟨_, e, _⟩
  exact e
 ·rw [Zp (fun e => hn (by rw [e]; exact hr0)), Zp (fun e => hn (by rw [← hF1 a ha hn, e]; exact hp))]
  exact hF1 a ha hn
 ·rintro i d acc M' hd ⟨rfl, e1, e2, e3, e4⟩
  rw [List.map_map] at hd
  obtain ⟨l, el, rfl⟩ := ZF hd
  show HR _ _
  rw [e1, Ye]
  refine ⟨_, ZbH ltn (List.mem_of_getElem? el), ?_, e1, e2, e3, e4⟩
  rw [← take_snoc _ el]
  rfl
 ·rintro acc M' ⟨rfl, e1, e2, e3, e4⟩
  have e0 : ((lt.map fun l => ((.inr l.n : Key), PyData.int (lvN ls l))).map fun p => kD p.1).length = lt.length := by rw [List.length_map, List.length_map]
  have lm2 := List.length_map (as := lt) (pr2 ls)
  rw [e0, List.take_length]
  refine ⟨lt.map fun l => (lvN ls l, l.n), by rw [List.map_map, List.map_map]; rfl, ?_, by omega, fun ds' hpd hsd => ?_⟩
  ·rw [List.nodup_iff_pairwise_ne, List.pairwise_map]
   rw [List.nodup_iff_pairwise_ne, List.pairwise_map] at ltn
   exact ltn.imp fun {a b} hab e => hab (Prod.ext_iff.mp e).2
  obtain ⟨ls', rfl, hpl⟩ := Ya hpd _ rfl
  have hO : U6 ls ls' := ⟨hpl.trans hlt, by
   rw [List.pairwise_map] at hsd
   exact hsd.imp fun {a b} hab => hab (lvN ls a, a.n) (lvN ls b, b.n) rfl rfl⟩
  have l9 := hO.len
  have lm3 := List.length_map (as := ls') (pr2 ls)
  refine ⟨fun i Δ M' => ∃ (k5 k6 k7 k8 k9 k10 : Option DV), Δ = [some (.own q), some (.dat (.list (ss.map PyData.str))), some (.dat (.tuple [.int u, .int v])), some (.own r), some (.own p), k5, k6, k7, k8, k9, k10] ∧ M' p = some (.lst ((QR ss u v (ls'.take i)).map PyData.str)) ∧ Tab M' q ls ∧ (∀ a, a ≠ q → M a ≠ none → M' a = M a), ⟨_, _, _, _, _, _, rfl, e2, e3, e4⟩, ?_, ?_⟩
  ·rintro i d Δ M' hd ⟨k5, k6, k7, k8, k9, k10, rfl, hp1, hT3, hF3⟩
   obtain ⟨l, el, rfl⟩ := ZF hd
   have ml := hO.mem (List.mem_of_getElem? el)
   rw [ZcN]
   walk_at "rk"
   refine hT3.rd ⟨_, Uo ho.nodup ml, ?_⟩
   rw [OX]
   walk_at "rk"
   rw [hp1]
   walk_at "rk"
   refine ⟨ho.2.1 l ml, ?_⟩
   have hin := Km (s := l.o) (ss := QR ss u v (ls'.take i)) fun t ht => by
    rcases List.mem_cons.mp ht with rfl | ht
    ·exact (h1 l ml).2
    ·exact K2 (P := Xj) (fun l hl => (h1 l (hO.mem (List.mem_of_mem_take hl))).1) t ht
   have hin2 := Km (s := l.n) (ss := ss) fun t ht => by
    rcases List.mem_cons.mp ht with rfl | ht
    ·exact (h1 l ml).1
    ·exact h2 t ht
   have ln : (QR ss u v (ls'.take i)).length ≤ 24 := by
    have := Jz ss u v (ls'.take i)
    rw [List.length_take] at this
    omega
   have sn := VA ss u v el
   unfold Yi at sn
   rw [hin.2, hin2.2]
   refine ZaE hin.1 (fun z => P4 (fun y => ⟨by rw [List.length_map]; omega, _, _, _, _, _, _, rfl, ?_, hT3.of (Zp pq), fun a ha hn => ?_⟩) (fun y => ⟨_, _, _, _, _, _, rfl, ?_, hT3, hF3⟩) hin2.1) fun z => ⟨_, _, _, _, _, _, rfl, ?_, hT3, hF3⟩
   ·have y : Ws ss u v l = true := y
    rw [z, y, Bool.and_self, if_pos rfl] at sn
    rw [sn, List.map_append]
    rfl
   ·rw [Zp (fun e => hn (by rw [← hF1 a ha hn, e]; exact hp))]
    exact hF3 a ha hn
   ·have y : Ws ss u v l = false := y
    rw [y, Bool.and_false, if_neg Bool.false_ne_true] at sn
    rw [sn]
   ·rw [z, Bool.false_and, if_neg Bool.false_ne_true] at sn
    rw [sn]
  ·rintro Δ M' ⟨k5, k6, k7, k8, k9, k10, rfl, hp1, hT3, hF3⟩
   rw [lm3, List.take_length] at hp1
   have fl := Jz ss u v ls'
   subst_vars
   walk_at "rk"
   rw [hp1]
   walk_at "rk"
   exact ⟨_, rfl, by omega, fun ss' hp' hs => h ls' ss' M' hO hp' hs hF3⟩
theorem BG (T : Tx K mg) : ZT P w K mg base CX0 8 T.Kc T.Xs ["_law_lands_here", "_law_held", "_law_spot_here"] (lift K XH) := by
 have G_look : ZT P w K mg base CX0 3 T.f_look T.Dv ["_law_lands_here", "_law_held", "_law_spot_here"] (lift K Fc) := RX T
 have G_looked : ZT P w K mg base CX0 7 T.Kv T.Kn ["lands", "held", "spot"] (lift K X7) := Dd T
 have G_alike : ZT P w K mg base CX0 3 T.YR T.Yy ["_law_found", "_law_due"] (lift K (VB 2)) := Lf T 2
 refine okG T.J6.F JJ (fun xs M Φ h => by obtain ⟨_, _, _, rfl, _⟩ := Qn h; rfl) fun cdv A outer s H E hr => ⟨_, (Ze (Zk 3 JJ.nd (Z5 (BC rfl) rfl T.OE EY (Za (Qc false (Zy (sc := Zf J7) (XN := ["_law_lands_here", "_law_held", "_law_spot_here", "_law_by_name", "_law_due", "_law_handed", "_law_turn", "_law_found"]) (N := ["_law_row"]) (ix := [none]) rfl rfl (by decide +kernel)) (Yk (Zb 0)) (fun C ex s H => (Zl 0 (show List.Nodup (["_law_row"] : List Str) by decide +kernel))) (fun C ex s H => Z6) (fun C ex s H => (ZH (Za (Zh (Zb 0) Zc) (Za (FR (Zb 0) (Yr Zc) Yp) Zd)))) rfl) Zd)))
 (Ze (Zk 4 JJ.nd (Zi G_look (hr.mono (by first | decide | omega)) rfl T.BN.m T.BN.F.kp T.BN.b Zx (Za (Zb 3) (Za (Zb 1) (Za (Zb 2) Zd)))))
 (Ze (Zk 5 JJ.nd (Z5 Ea rfl T.WC YJ (Za (Zb 1) Zd)))
 (Ze (Je rfl T.Qw (Za Zc Zd) (Zl 6 JJ.nd) (Ze (Zk 7 JJ.nd (Zi G_looked (hr.mono (by first | decide | omega)) rfl T.VY.m T.VY.F.kp T.VY.b Zx (Za (Zb 0) (Za (Zb 5) (Za (Zb 2) Zd)))))
 (Ze (Qm (DW.dt (EJ (WN (Vj (Zi G_alike (hr.mono (by first | decide | omega)) rfl T.J8.m T.J8.F.kp T.J8.b Zx (Za (Zb 7) (Za (Zb 4) Zd))))) (Wm (ZN (ZaW hr) (Zb 5) (Zb 1))))) (Zg (Zs YE)) ZI)
 (Zg (QL (NM (Zb 7)))))) PassesOwn.never rfl)
 (Zg (Zs YE)))))), fun xs M Φ h => ?_⟩
 replace h := Qn h
 obtain ⟨x1, x2, x3, rfl, h⟩ := h
 obtain ⟨ls, rfl, ss, rfl, h⟩ := h
 replace h := JU h
 obtain ⟨u, v, rfl, ⟨ho, h1, h2, h3⟩, h⟩ := h
 have l8 := ho.1
 have len := List.length_map (as := ls) ldD
 walk_at "hd"
 walk_at "rk"
 refine ⟨by omega, fun i acc M' => acc = ((ls.map fun l => (l.n, ldV l)).take i).map DL.pairD ∧ M' = M, ⟨rfl, rfl⟩, ?_, ?_⟩
 ·rintro i d acc M' hd ⟨rfl, rfl⟩
  obtain ⟨l, el, rfl⟩ := ZF hd
  have el' : (ls.map fun l => (l.n, ldV l))[i]? = some (l.n, ldV l) := by rw [List.getElem?_map, el]; rfl
  rw [OH]
  walk_at "rk"
  rw [S1, ← take_snoc _ el']
  exact ⟨by decide, rfl⟩
 ·rintro acc M' ⟨rfl, rfl⟩
  have e1 : (ls.map ldD).length = (ls.map fun l => (l.n, ldV l)).length := by rw [List.length_map, List.length_map]
  rw [e1, List.take_length]
  refine ⟨_, rfl, fun q hq => ?_⟩
  rw [Mw ho.nodup]
  walk_at "hd"
  walk_at "rk"
  refine ⟨ss, rfl, ls, ⟨.inl Zn, ho, h1, h2⟩, fun ls' ns M1 hO hpn hsn hF => ?_⟩
  have hF1 : ∀ a, M' a ≠ none → M1 a = M' a := fun a ha => by
   have na : a ≠ q := fun e => ha (by rw [e]; exact hq)
   rw [hF a na (by rw [Zp na]; exact ha), Zp na]
  have nl : ns.length ≤ 24 := by
   have := Jz ss u v ls'
   have := hO.len
   rw [hpn.length_eq]
   omega
  walk_at "hd"
  walk_at "rk"
  walk_at "hd"
  walk_at "rk"
  refine ⟨⟨by decide, by decide⟩, fun i Δ M2 => ∃ k6 k7, Δ = [some (.dat (.tuple (ls.map ldD))), some (.dat (.list (ss.map PyData.str))), some (.dat (.tuple [.int u, .int v])), some (.own q), some (.dat (.list (ns.map PyData.str))), some (.dat (.list (ss.map PyData.str))), k6, k7] ∧ ∀ a, M' a ≠ none → M2 a = M' a, ⟨_, _, rfl, hF1⟩, ?_, ?_⟩
  ·rintro i Δ M2 hi ⟨k6, k7, rfl, hM⟩
   rw [ZY]
   walk_at "hd"
   walk_at "rk"
   refine ⟨ls, rfl, ss, rfl, ⟨ho, h1, h2⟩, fun ls2 ns2 hO2 hpn2 hsn2 r hr' => ?_⟩
   cases hO.uniq ho hO2
   cases Cb (hpn.trans hpn2.symm) hsn hsn2
   walk_at "hd"
   walk_at "rk"
   refine ⟨1, rfl, .inr ⟨r, ns, ns, 0, rfl, rfl, Zn, rfl, ⟨by omega, by omega⟩, ?_⟩⟩
   obtain ⟨e1, e2⟩ := SU ss h2
   rw [decide_eq_true rfl, if_neg (by decide)]
   refine Ow e1 ?_
   rw [e2, if_neg (by decide)]
   subst_vars
   walk_at "rk"
   refine ⟨_, _, rfl, fun a ha => ?_⟩
   have na : a ≠ r := fun e => ha (by rw [← hM a ha, e]; exact hr')
   rw [Zp na]
   exact hM a ha
  ·rintro Δ M2 ⟨k6, k7, rfl, hM⟩
   subst_vars
   walk_at "rk"
   exact ZeL (h M2 hM)
theorem L4 (T : Tx K mg) : ZT P w K mg base CX0 4 T.Gw T.Ue ["_law_pen_here", "_law_house_here"] (lift K Gr) := by
 have G_draw : ZT P w K mg base CX0 1 T.JQ T.JT ["_law_pen_here", "_law_many"] (lift K JS) := Jo T
 have G_land : ZT P w K mg base CX0 3 T.Bb T.Bn ["_law_pen_here", "_law_house_here"] (lift K XF) := Ft T
 refine okD T.KI.F Qu (fun xs M Φ h => by obtain ⟨_, _, rfl, _⟩ := ZL h; rfl) fun cdv A outer s H E hr => ⟨_, (Ze (Zk 2 Qu.nd (Zi G_draw (hr.mono (by first | decide | omega)) rfl T.Zj.m T.Zj.F.kp T.Zj.b Zx (Za (Zb 0) (Za Zc Zd))))
 (Ze (Zk 3 Qu.nd (Qg Zd))
 (Ze (Vs (Vo ((QX hr) (Zb 1) ZE) Yp (Yr Zc)) (Zl 4 Qu.nd) (Ze (YH (Zi G_land (hr.mono (by first | decide | omega)) rfl T.JM.m T.JM.F.kp T.JM.b Zx (Za (Zb 0) (Za (Zb 1) Zd))) (JR (n := 3) rfl (ZG (Zl 5 Qu.nd) (ZG (Zl 6 Qu.nd) (ZG (Zl 7 Qu.nd) Q0)))))
 (Ze (Qm (DW.dt (WY (ZN (BU hr) (Zb 3) (Qf Zd)) (Yo (ZN Eh (Zb 2) Zc)))) (Zg (Zk 5 Qu.nd (Zh (Zh (Zb 3) (Fg Zc)) Zc))) (Zg (Qm (ZN Eh (Zb 2) Zc) (Zg (Zk 5 Qu.nd ZE)) ZI)))
 (Ze (Qm (DW.dt (WY (ZN (BU hr) (Zb 3) (Qf Zd)) (Yo (ZN (Q5 hr) (Zo Jp (Zb 2) Zc) Zc)))) (Zg (Zk 6 Qu.nd (Zh (Zh (Zb 3) (Fg Zc)) Zc))) ZI)
 (Zg (Qm (ZN Eh (Zi G_draw (hr.mono (by first | decide | omega)) rfl T.Zj.m T.Zj.F.kp T.Zj.b Zx (Za (Zb 0) (Za Zc Zd))) Zc) (Zg (QL (QP (Zb 3) (ZH (Za (Zb 4) (Za (Zb 5) (Za (Zb 6) (Za (Zb 7) Zd)))))))) ZI))))) PassesOwn.never rfl)
 (Zg (Zs (Z5 VD rfl T.Yu Vf (Za (Zm Xm rfl T.QB Ql (Za (Zb 3) Zd)) Zd))))))), fun xs M Φ h => ?_⟩
 replace h := ZL h
 obtain ⟨x1, x2, rfl, h⟩ := h
 replace h := ZU h
 obtain ⟨p, rfl, h⟩ := h
 replace h := ZU h
 obtain ⟨q, rfl, c, ls, n, ⟨hp, hs, hn⟩, h⟩ := h
 walk_at "hd"
 walk_at "rk"
 refine ⟨hp, fun wy M1 w0 w1 f1 => ?_⟩
 have hs1 := hs.fr f1
 walk_at "hd"
 walk_at "rk"
 intro r hr'
 have rp : r ≠ p := Ne.symm (f1.1.ne hr')
 have rq : q ≠ r := fun e => by
  obtain ⟨f, ox, oy, eq, hf⟩ := hs1.h1
  rw [e, hr'] at eq
  cases eq
 have rc : c ≠ r := fun e => by
  obtain ⟨cs, ec, _⟩ := hs1.h2
  rw [e, hr'] at ec
  cases ec
 have r0 : M r = none := f1.fresh hr'
 have hs2 := hs1.put (o := .lst []) rq rc
 have pn2 := f1.1.put (o := .lst []) (Ne.symm rp)
 obtain ⟨f, ox, oy, eq, hf⟩ := hs2.h1
 walk_at "hd"
 walk_at "rk"
 rw [eq]
 walk_at "rk"
 rw [GL (by decide) (by have := hs.nm.1; omega), show Int.toNat 5 = 5 from rfl]
 have tl : (ls.take 5).length ≤ 5 := by rw [List.length_take]; omega
 have ll := List.length_map (as := ls.take 5) PyData.str
 refine ⟨fun j Δ M' => ∃ (k4 k5 k6 k7 : Option DV) (rows : List Ld), Δ = [some (.own p), some (.own q), some (.dat (.int wy)), some (.own r), k4, k5, k6, k7] ∧ (rows.map (·.n)).Sublist ((ls.take 5).take j) ∧ (∀ l ∈ rows, Gd ls l) ∧ M' r = some (.lst (rows.map ldD)) ∧ Hs M' p q c ls (n + 12 * j) ∧ Fh p c M M',
   ⟨_, _, _, _, [], rfl, List.Sublist.slnil, fun l hl => (nomatch hl), Zn, hs2, ?_⟩, ?_, ?_⟩
 ·exact ⟨pn2, fun a ha _ hn => (Zp fun e => hn (by rw [e]; exact r0)).trans (f1.2 a ha hn)⟩
 ·rintro j d Δ M' hd ⟨k4, k5, k6, k7, rows, rfl, hrn, hrg, hrm, hrh, hrf⟩
  obtain ⟨s, es, rfl⟩ := ZF hd
  have hj : j < (ls.take 5).length := (List.getElem?_eq_some_iff.mp es).1
  have ms : s ∈ ls := List.mem_of_mem_take (List.mem_of_getElem? es)
  have rl : rows.length ≤ 5 := by
   have := hrn.length_le
   rw [List.length_map, List.length_take] at this
   omega
  rw [ZY]
  walk_at "hd"
  walk_at "rk"
  refine ⟨c, ls, n + 12 * j, ⟨hrf.1, hrh, by omega⟩, fun ou bs wb M4 hou hshp hlim hwb hs4 f4 => ?_⟩
  have r4 : M4 r = some (.lst (rows.map ldD)) := (f4.2 r rp (Ne.symm rc) (by rw [hrm]; exact Option.some_ne_none _)).trans hrm
  walk_at "hd"
  walk_at "rk"
  rw [r4]
  walk_at "rk"
  refine ZaB hrg hou fun ou hou => ?_
  walk_at "hd"
  walk_at "rk"
  rw [r4]
  walk_at "rk"
  refine Za3 hrg ⟨hshp, hlim⟩ fun bs hbs => ?_
  subst_vars
  walk_at "rk"
  refine ⟨f4.1, fun r6 M6 a6 b6 f6 => ?_⟩
  have r6' : M6 r = some (.lst (rows.map ldD)) := f6.own r4 rp
  have ff := (hrf.trans f4).trans f6.fh
  refine Zz (fun z => ?_) fun z => ⟨_, _, _, _, rows, rfl, hrn.trans (List.take_sublist_take_left (Nat.le_succ j)), hrg, r6', hs4.fr f6, ff⟩
  rw [r6']
  walk_at "rk"
  refine ⟨by rw [List.length_map]; omega, _, _, _, _, rows ++ [⟨s, ou, bs, wb⟩], rfl, ?_, ?_, ?_, (hs4.fr f6).put rq rc, ff.1.put (Ne.symm rp), fun a ha hc hn => ?_⟩
  ·rw [List.map_append, List.take_succ, es]
   exact hrn.append (List.Sublist.refl _)
  ·intro l hl
   rcases List.mem_append.mp hl with hl | hl
   ·exact hrg l hl
   ·rw [List.mem_singleton.mp hl]
    exact ⟨ms, hou, hbs.1, hbs.2, hwb⟩
  ·rw [List.map_append]
   rfl
  ·rw [Zp (fun e => hn (by rw [e]; exact r0))]
   exact ff.2 a ha hc hn
 ·rintro Δ M4 ⟨k4, k5, k6, k7, rows, rfl, hrn, hrg, hrm, hrh, hrf⟩
  rw [ll] at hrn hrh
  rw [List.take_length] at hrn
  have rl : rows.length ≤ 5 := by
   have := hrn.length_le
   rw [List.length_map] at this
   omega
  have rnd : (rows.map (·.n)).Nodup := hrn.nodup ((List.take_sublist _ _).nodup hs.nm.2.1)
  subst_vars
  walk_at "rk"
  rw [hrm]
  walk_at "rk"
  refine ⟨rows.map (·.n), by rw [List.map_map, List.map_map]; rfl, rnd, by rw [List.length_map]; omega, fun ds' pd ud => ?_⟩
  obtain ⟨lds, rfl, pr⟩ := Ya pd rows rfl
  exact h lds M4 (by rw [pr.length_eq]; omega) (DX rnd (by omega) (fun l hl => ⟨(hrg l hl).2.2.1, (hrg l hl).2.2.2.2.1⟩) pr ud) (fun l hl => hrg l (pr.mem_iff.mp hl)) (hrh.le (by omega)) hrf
theorem Ko (T : Tx K mg) : ZT P w K mg base CX0 9 T.Ju T.Jt ["_law_pen_here"] (lift K EK) := by
 have G_frame : ZT P w K mg base CX0 2 T.Xx T.Ke ["_law_pen_here"] (lift K V9) := Bc T
 have G_draw : ZT P w K mg base CX0 1 T.JQ T.JT ["_law_pen_here", "_law_many"] (lift K JS) := Jo T
 have G_land : ZT P w K mg base CX0 3 T.Bb T.Bn ["_law_pen_here", "_law_house_here"] (lift K XF) := Ft T
 have G_right : ZT P w K mg base CX0 8 T.Kc T.Xs ["_law_lands_here", "_law_held", "_law_spot_here"] (lift K XH) := BG T
 refine okD T.QT.F Zw (fun xs M Φ h => by obtain ⟨_, rfl, _⟩ := ZS h; rfl) fun cdv A outer s H E hr => ⟨_, (Ze (Zk 1 Zw.nd (Zo ZJ Zc (Zi G_draw (hr.mono (by first | decide | omega)) rfl T.Zj.m T.Zj.F.kp T.Zj.b Zx (Za (Zb 0) (Za Zc Zd)))))
 (Ze (Zk 2 Zw.nd (Zh (Qf (Za Zc (Za Zc (Za Zc (Za Zc Zd))))) (Zi G_draw (hr.mono (by first | decide | omega)) rfl T.Zj.m T.Zj.F.kp T.Zj.b Zx (Za (Zb 0) (Za Zc Zd)))))
 (Ze (Uw 3 false Zw.nd (Zy (sc := Zf Z3) (XN := ["_law_pen_here", "_law_many", "_law_step", "_law_names_here", "_law_house_here", "_law_shape", "_law_other", "_law_at", "_law_rows", "_law_k", "_law_lands_here", "_law_spot_here", "_law_held"]) (N := ["_law_k", "_law_step"]) (ix := [none, some 2]) rfl rfl (by decide +kernel)) (Ys rfl T.Qw (Za (Zb 1) Zd)) (fun C ex s H => (Zl 0 (show List.Nodup (["_law_k", "_law_step"] : List Str) by decide +kernel))) (fun C ex s H => Z6) (fun C ex s H => (Bt ZE (Zo Jp (Zo Jk (Zb 1) (Zb 0)) Zc))) rfl)
 (Ze (Zk 4 Zw.nd (BV (Yb ZE (Zb 3) (Yb ZE (Qg (Za (ZH (Za Zc (Za Zc Zd))) Zd)) C7))))
 (Ze (Eu hr (Zb 4) ZE (Zi G_frame (hr.mono (by first | decide | omega)) rfl T.Vc.m T.Vc.F.kp T.Vc.b Zx (Za (Zb 0) Zd)))
 (Ze (Zk 5 Zw.nd (Zh (Zi G_land (hr.mono (by first | decide | omega)) rfl T.JM.m T.JM.F.kp T.JM.b Zx (Za (Zb 0) (Za (Zb 4) Zd))) Zc))
 (Ze (Zk 6 Zw.nd (Zh (Zi G_land (hr.mono (by first | decide | omega)) rfl T.JM.m T.JM.F.kp T.JM.b Zx (Za (Zb 0) (Za (Zb 4) Zd))) Zc))
 (Ze (Zk 7 Zw.nd (Zi G_draw (hr.mono (by first | decide | omega)) rfl T.Zj.m T.Zj.F.kp T.Zj.b Zx (Za (Zb 0) (Za (Zo Jk Zc (Zb 1)) Zd))))
 (Ze (Zk 8 Zw.nd (Qg (Za (ZH (Za (Zh (Zb 3) Zc) (Za ZE (Za (Zh (Qf (Za (Zb 5) (Za (Zb 6) Zd))) (Z5 Wd rfl T.B3 Y9 (Za (QW (Q5 hr) (Zb 7) Zc) Zd))) (Za (Z5 Wd rfl T.B3 Y9 (Za (QW (Q5 hr) (Zb 7) (Zb 1)) Zd)) Zd))))) Zd)))
 (Ze (BD rfl T.Qw (Za Zc (Za (Zb 1) Zd)) (Zl 9 Zw.nd) (Zg (QL (QP (Zb 8) (ZH (Za (Zh (Zb 3) (Zb 9)) (Za (Zh (Zb 3) (Zo Z9 (Zb 9) Zc)) (Za (Zh (Qf (Za (Zb 5) (Za (Zb 6) Zd))) (Z5 Wd rfl T.B3 Y9 (Za (QW (Q5 hr) (Zb 9) (Zb 7)) Zd))) (Za (Z5 Wd rfl T.B3 Y9 (Za (QW (Q5 hr) (Zo ZJ (Zb 9) (Zb 1)) (Zb 7)) Zd)) Zd)))))))) PassesOwn.never rfl)
 (Ze (Zk 10 Zw.nd (Z5 VD rfl T.Yu Vf (Za (Zm Xm rfl T.QB Ql (Za (Zb 8) Zd)) Zd)))
 (Ze (Gg (ZH (Za (Zh (Zh (Zb 5) Zc) Zc) (Za (Zh (Zh (Zb 5) (Fg Zc)) Zc) Zd))) (Zl 11 Zw.nd) (Zg (Gg (ZH (Za (Qf Zd) (Za (Zm JB rfl T.QB Ql (Za (Zb 3) Zd)) (Za (Zm JB rfl T.QB Ql (Za (Vo (Zb 3) Yp (Yr (Zo GJ (Zb 1) Zc))) Zd)) Zd)))) (Zl 12 Zw.nd) (Zg (Qm (WN (Vj (Zi G_right (hr.mono (by first | decide | omega)) rfl T.J6.m T.J6.F.kp T.J6.b Zx (Za (Zb 10) (Za (Zb 12) (Za (Zb 11) Zd)))))) (Zg (Zs YE)) ZI)) PassesOwn.never rfl)) PassesOwn.never rfl)
 (Zg (Zs YE)))))))))))))), fun xs M Φ h => ?_⟩
 replace h := ZS h
 obtain ⟨x1, rfl, h⟩ := h
 replace h := ZU h
 obtain ⟨p, rfl, hp, h⟩ := h
 walk_at "hd"
 walk_at "rk"
 refine ⟨hp, fun r1 M1 a1 b1 f1 => ?_⟩
 walk_at "hd"
 walk_at "rk"
 refine ⟨f1.1, fun r2 M2 a2 b2 f2 => tab (l := [1, 7, 11, 15]) (fun m => m = 1 ∨ m = 7 ∨ m = 11 ∨ m = 15) a2 (by simp only [List.length_cons, List.length_nil]; omega) (by decide) fun st hst => ?_⟩
 obtain ⟨m, hm⟩ : ∃ m : Nat, (10 + r1 : Int) = m := ⟨(10 + r1).toNat, by omega⟩
 rw [hm]
 walk_at "hd"
 walk_at "rk"
 have hm1 : (m : Int).toNat = m := rfl
 refine ⟨⟨by omega, by omega⟩, by rw [QD]; omega, fun i acc M' => acc = ((dnL st m).take i).map PyData.str ∧ M' = M2, ⟨rfl, rfl⟩, ?_, ?_⟩
 ·rintro i d acc M' hd ⟨rfl, rfl⟩
  have hi : i < m := by have := (List.getElem?_eq_some_iff.mp hd).1; rw [QD] at this; exact this
  rw [hm1, X8 hi] at hd
  cases hd
  have hmd := W9 (st * (i : Int)) (show (0 : Int) < 26 by decide)
  walk_at "rk"
  refine ⟨.inl (by omega), by rw [Kw]; decide, _, Bj hmd.1 hmd.2, ?_⟩
  rw [← take_snoc PyData.str (Eg hi)]
  first | exact ⟨rfl, rfl⟩ | rfl
 rintro acc M3 ⟨rfl, rfl⟩
 obtain ⟨dl, dn, dN⟩ := Zbt hst (m := m) (by omega)
 rw [QD, hm1, List.take_of_length_le (by omega)]
 walk_at "hd"
 walk_at "rk"
 intro q hq c hc'
 have F3 := f1.trans f2
 have n1 : q ≠ p := Ne.symm (F3.1.ne hq)
 have n3 : c ≠ q := fresh_ne hc'
 have hc : M3 c = none := by rwa [Zp n3] at hc'
 have n2 : c ≠ p := Ne.symm (F3.1.ne hc)
 have q0 := F3.fresh hq
 have c0 := F3.fresh hc
 refine ⟨by rw [Zp (Ne.symm n3)]; exact Zn, by decide +kernel, ?_⟩
 walk_at "hd"
 walk_at "rk"
 have F4 := ((F3.put (o := .dko []) q0 n1).put (o := .lst [PyData.tuple [PyData.int 0, PyData.int 0]]) c0 n2).put (o := .dko [(.inr (Str.ofString "lands"), .dat (.list ((dnL st m).map PyData.str))), (.inr (Str.ofString "corners"), .own c)]) q0 n1
 refine ⟨F4.1, fun f ox oy M5 hf f5 => ?_⟩
 have q5 := f5.own Zn n1
 have c5 := f5.own ((Zp n3).trans Zn) n2
 rw [q5]
 walk_at "rk"
 rw [Oo]
 have hs : Hs (Zv M5 q (.dko (hsL (dnL st m) c f ox oy))) p q c (dnL st m) 1 := ⟨⟨f, ox, oy, Zn, hf⟩, ⟨[(0, 0)], (Zp n3).trans c5, fun k hk => by rw [List.mem_singleton.mp hk]; unfold Sm; decide, Nat.le_refl _, Nat.le_refl _⟩, n1, n2, n3, ⟨by omega, by omega⟩, dn, dN⟩
 have pn : Pen (Zv M5 q (.dko (hsL (dnL st m) c f ox oy))) p := f5.1.put (Ne.symm n1)
 generalize Zv M5 q (.dko (hsL (dnL st m) c f ox oy)) = M6 at hs pn ⊢
 walk_at "hd"
 walk_at "rk"
 refine ⟨c, dnL st m, 1, ⟨pn, hs, by decide⟩, fun ou bs wb M7 hou hshp hlim hwb hs7 f7 => ?_⟩
 walk_at "hd"
 walk_at "rk"
 refine ⟨c, dnL st m, 13, ⟨f7.1, hs7, by decide⟩, fun ou2 bs2 wb2 M8 hou2 hshp2 hlim2 hwb2 hs8 f8 => ?_⟩
 walk_at "hd"
 walk_at "rk"
 refine ⟨.inl (by decide), ⟨by omega, by omega⟩, f8.1, fun tt M9 t0 t1 f9 => ?_⟩
 walk_at "hd"
 walk_at "rk"
 refine Rr (k := 0) (by omega) (O2 hshp hshp2 fun bs3 hs3 r hr' => ?_)
 have rp : r ≠ p := Ne.symm (f9.1.ne hr')
 have mem : ∀ k, k < m → Xu (st * (k : Int) % 26) ∈ dnL st m := fun k hk => List.mem_of_getElem? (Eg hk)
 walk_at "hd"
 walk_at "rk"
 refine ⟨⟨⟨by decide, by decide⟩, by omega, by omega⟩, fun i Δ M' => ∃ (k9 : Option DV) (rows : List Ld), Δ = [some (.own p), some (.dat (.int m)), some (.dat (.int st)), some (.dat (.list ((dnL st m).map PyData.str))), some (.own q), some (.dat (.tuple (bs.map bD))), some (.dat (.tuple (bs2.map bD))), some (.dat (.int tt)), some (.own r), k9, none, none, none] ∧ rows.map (·.n) = (dnL st m).take (i + 1) ∧ (∀ l ∈ rows, Dr (dnL st m) l) ∧ M' r = some (.lst (rows.map ldD)),
  ⟨_, [⟨Xu (st * ((0 : Nat) : Int) % 26), Str.ofString "", bs3, if decide (tt = m) = true then 1 else 0⟩], rfl, ?_, ?_, Zn⟩, ?_, ?_⟩
 ·have := take_snoc (fun s : Str => s) (Eg (st := st) (m := m) (k := 0) (by omega))
  rw [List.map_id', List.map_id'] at this
  exact this
 ·intro l hl
  rw [List.mem_singleton.mp hl]
  exact ⟨mem 0 (by omega), .inl rfl, hs3, ZfI _⟩
 ·rintro i Δ M' hi ⟨k9, rows, rfl, hrn, hrg, hrm⟩
  have hi1 : i + 1 < m := by omega
  have e1 : (1 + (i : Int)) = ((i + 1 : Nat) : Int) := by omega
  have e2 : (((i + 1 : Nat) : Int) - 1) = (i : Int) := by omega
  have rl : rows.length ≤ 24 := by
   have := congrArg List.length hrn
   rw [List.length_map, List.length_take] at this
   omega
  rw [ZY, e1]
  subst_vars
  walk_at "rk"
  rw [hrm]
  walk_at "rk"
  refine Rr hi1 ?_
  rw [e2]
  refine Rr (by omega) (O2 hshp hshp2 fun bs4 hs4 => ⟨by rw [List.length_map]; omega, _, rows ++ [⟨Xu (st * ((i + 1 : Nat) : Int) % 26), Xu (st * (i : Int) % 26), bs4, if decide ((((i + 1 : Nat) : Int) + (m : Int)) = tt) = true then 1 else 0⟩], rfl, ?_, ?_, ?_⟩)
  ·rw [List.map_append, hrn]
   have := take_snoc (fun s : Str => s) (Eg (st := st) hi1)
   rw [List.map_id', List.map_id'] at this
   exact this
  ·intro l hl
   rcases List.mem_append.mp hl with hl | hl
   ·exact hrg l hl
   ·rw [List.mem_singleton.mp hl]
    exact ⟨mem _ hi1, .inr (mem i (by omega)), hs4, ZfI _⟩
  ·rw [List.map_append]
   rfl
 rintro Δ M' ⟨k9, rows, rfl, hrn, hrg, hrm⟩
 have e3 : ((m : Int) - 1).toNat + 1 = m := by omega
 rw [e3, List.take_of_length_le (by omega)] at hrn
 have rl : rows.length ≤ 24 := by
  have := congrArg List.length hrn
  rw [List.length_map] at this
  omega
 have rnd : (rows.map (·.n)).Nodup := by rw [hrn]; exact dn
 walk_at "hd"
 walk_at "rk"
 rw [hrm]
 walk_at "rk"
 refine ⟨rows.map (·.n), by rw [List.map_map, List.map_map]; rfl, rnd, by rw [List.length_map]; omega, fun ds' pd ud => ?_⟩
 obtain ⟨lds, rfl, pr⟩ := Ya pd rows rfl
 have hG : ∀ l ∈ lds, Dr (dnL st m) l := fun l hl => hrg l (pr.mem_iff.mp hl)
 have hO : YX lds := DX rnd (by omega) (fun l hl => (hrg l hl).2.2) pr ud
 have hLy : Pk lds := fun l hl => ⟨(dN _ (hG l hl).1).lay, (hG l hl).2.1.lay dN⟩
 walk_at "hd"
 walk_at "rk"
 have bne : bs ≠ [] := fun e => by rw [e] at hshp; exact absurd hshp.1 (by decide)
 refine ZeR hshp fun b hb => ?_
 show VN (bs.map bD) (-1) _
 refine U7 bne fun b2 hb2 => ?_
 show B9 _ _ _ [.tuple [.int b.x, .int b.y], .tuple [.int b2.X, .int b2.Y]] _ _
 refine ⟨fun i Δ M' => ∃ k11 k12, Δ = [some (.own p), some (.dat (.int m)), some (.dat (.int st)), some (.dat (.list ((dnL st m).map PyData.str))), some (.own q), some (.dat (.tuple (bs.map bD))), some (.dat (.tuple (bs2.map bD))), some (.dat (.int tt)), some (.own r), k9, some (.dat (.tuple (lds.map ldD))), k11, k12], ⟨_, _, rfl⟩, ?_, ?_⟩
 ·rintro i d Δ M6 hd ⟨k11, k12, rfl⟩
  obtain ⟨u, v, rfl⟩ : ∃ u v : Int, d = .tuple [.int u, .int v] := by
   rcases P6 hd with rfl | rfl
   ·exact ⟨_, _, rfl⟩
   ·exact ⟨_, _, rfl⟩
  rw [ZY]
  walk_at "rk"
  refine ⟨dnL st m, rfl, by omega, fun s1 p1 _ => ?_⟩
  refine ⟨⟨by decide, by decide⟩, ?_⟩
  rw [GL (by omega) (by omega)]
  refine ⟨(dnL st m).take ((m : Int) / 2).toNat, rfl, by rw [List.length_take]; omega, fun s2 p2 _ => ?_⟩
  refine ⟨fun i Δ M' => ∃ k12, Δ = [some (.own p), some (.dat (.int m)), some (.dat (.int st)), some (.dat (.list ((dnL st m).map PyData.str))), some (.own q), some (.dat (.tuple (bs.map bD))), some (.dat (.tuple (bs2.map bD))), some (.dat (.int tt)), some (.own r), k9, some (.dat (.tuple (lds.map ldD))), some (.dat (.tuple [.int u, .int v])), k12], ⟨_, rfl⟩, ?_, ?_⟩
  ·rintro i d Δ M7 hd ⟨k12, rfl⟩
   obtain ⟨ss, rfl, hl, hss⟩ : ∃ ss : List Str, d = .list (ss.map PyData.str) ∧ ss.length ≤ 100 ∧ ∀ s ∈ ss, Xj s := by
    rcases Hl hd with rfl | rfl | rfl
    ·exact ⟨[], rfl, by decide, fun s hs => (nomatch hs)⟩
    ·exact ⟨s1, rfl, by rw [p1.length_eq]; omega, fun s hs => (dN s (p1.mem_iff.mp hs)).lay⟩
    ·exact ⟨s2, rfl, by rw [p2.length_eq, List.length_take]; omega, fun s hs => (dN s (List.mem_of_mem_take (p2.mem_iff.mp hs))).lay⟩
   rw [ZY]
   walk_at "rk"
   exact ⟨lds, rfl, ss, rfl, ⟨hO, hLy, hss, hl⟩, fun M8 _ => ⟨_, rfl⟩⟩
  ·rintro Δ M7 ⟨k12, rfl⟩
   exact ⟨_, _, rfl⟩
 ·rintro Δ M6 ⟨k11, k12, rfl⟩
  subst_vars
  walk_at "rk"
  exact h _
theorem ZcQ (T : Tx K mg) : ZT P w K mg base CX0 10 T.ZaC T.Zab ["_law_script"] (lift K Dw) := by
 have G_deep_right : ZT P w K mg base CX0 9 T.Ju T.Jt ["_law_pen_here"] (lift K EK) := Ko T
 have G_pen : ZT P w K mg base CX0 1 T.Rn T.Ri ["_law_script", "_law_k"] (lift K C8) := Zcb T
 have G_house : ZT P w K mg base CX0 3 T.UJ T.UA ["_law_pen_here"] (lift K UB) := LN T
 have G_lands : ZT P w K mg base CX0 4 T.Gw T.Ue ["_law_pen_here", "_law_house_here"] (lift K Gr) := L4 T
 have G_spot : ZT P w K mg base CX0 2 T.HF T.Hd ["_law_pen_here", "_law_house_here"] (lift K Gu) := S2 T
 have G_right : ZT P w K mg base CX0 8 T.Kc T.Xs ["_law_lands_here", "_law_held", "_law_spot_here"] (lift K XH) := BG T
 have G_draw : ZT P w K mg base CX0 1 T.JQ T.JT ["_law_pen_here", "_law_many"] (lift K JS) := Jo T
 refine okD T.o_law.F Ve (fun xs M Φ ⟨ns, e, _⟩ => by rw [e]; rfl) fun cdv A outer s H E hr => ⟨_, (Ze (Qm (WN (Vj (Zi G_deep_right (hr.mono (by first | decide | omega)) rfl T.QT.m T.QT.F.kp T.QT.b Zx (Za (Zi G_pen (hr.mono (by first | decide | omega)) rfl T.Gb.m T.Gb.F.kp T.Gb.b Zx (Za (Zb 0) (Za Zc Zd))) Zd)))) (Zg (Zs YE)) ZI)
 (Ze (Je rfl T.Qw (Za Zc Zd) (Zl 1 Ve.nd) (Ze (Zk 2 Ve.nd (Zi G_pen (hr.mono (by first | decide | omega)) rfl T.Gb.m T.Gb.F.kp T.Gb.b Zx (Za (Zb 0) (Za (Zb 1) Zd))))
 (Ze (Zk 3 Ve.nd (Zi G_house (hr.mono (by first | decide | omega)) rfl T.KJ.m T.KJ.F.kp T.KJ.b Zx (Za (Zb 2) Zd)))
 (Ze (Zk 4 Ve.nd (Zi G_lands (hr.mono (by first | decide | omega)) rfl T.KI.m T.KI.F.kp T.KI.b Zx (Za (Zb 2) (Za (Zb 3) Zd))))
 (Ze (Zk 5 Ve.nd (Zm (DC hr) rfl T.N5 D0 (Za (Zb 4) Zd)))
 (Ze (Je rfl T.Qw (Za Zc Zd) (Zl 6 Ve.nd) (Ze (Zk 7 Ve.nd (Zi G_spot (hr.mono (by first | decide | omega)) rfl T.Bi.m T.Bi.F.kp T.Bi.b Zx (Za (Zb 2) (Za (Zb 3) Zd))))
 (Ze (Zk 8 Ve.nd (Zm JB rfl T.QB Ql (Za (Qc false (Zy (sc := Zf Gk) (XN := ["_law_script", "_law_k", "_law_pen_here", "_law_house_here", "_law_lands_here", "_law_kept", "_law_turn", "_law_spot_here", "_law_held"]) (N := ["_law_name", "_law_pen_here"]) (ix := [none, some 2]) rfl rfl (by decide +kernel)) (Q6 ((QX hr) (Zb 3) ZE)) (fun C ex s H => (Zl 0 (show List.Nodup (["_law_name", "_law_pen_here"] : List Str) by decide +kernel))) (fun C ex s H => (Xw (ZN Fi (Zi G_draw (hr.mono (by first | decide | omega)) rfl T.Zj.m T.Zj.F.kp T.Zj.b Zx (Za (Zb 1) (Za Zc Zd))) Zc))) (fun C ex s H => (Zb 0)) rfl) Zd)))
 (Zg (Qm (WN (Vj (Zi G_right (hr.mono (by first | decide | omega)) rfl T.J6.m T.J6.F.kp T.J6.b Zx (Za (Zb 4) (Za (Zb 8) (Za (Zb 7) Zd)))))) (Zg (Zs YE)) ZI)))) PassesOwn.never rfl)
 (Zg (Qm (ZN Zaw (Zm (DC hr) rfl T.N5 D0 (Za (Zb 4) Zd)) (Zb 5)) (Zg (Zs YE)) ZI))))))) PassesOwn.never rfl)
 (Zg (Zs YE)))), fun xs M Φ ⟨ns, e, hn, h⟩ => ?_⟩
 subst e
 walk_at "hd"
 walk_at "rk"
 refine fun p o hp ho => ⟨Pen.Zv ho, fun M0 => ?_⟩
 walk_at "hd"
 walk_at "rk"
 refine ⟨⟨by decide, by decide⟩, fun i Δ M' => ∃ k1 k2 k3 k4 k5 k6 k7 k8 : Option DV, Δ = [some (.dat (.list (ns.map PyData.int))), k1, k2, k3, k4, k5, k6, k7, k8], ⟨_, _, _, _, _, _, _, _, rfl⟩, ?_, ?_⟩
 ·rintro i Δ M' hi ⟨k1, k2, k3, k4, k5, k6, k7, k8, rfl⟩
  rw [ZY]
  walk_at "hd"
  walk_at "rk"
  refine ⟨by omega, fun p o hp ho => ?_⟩
  walk_at "hd"
  walk_at "rk"
  refine ⟨Pen.Zv ho, fun q c ls M1 hq hc hs f1 => ?_⟩
  walk_at "hd"
  walk_at "rk"
  refine ⟨c, ls, 1, ⟨f1.1, hs, by decide⟩, fun lds M2 hl5 hO hG hs2 f2 => ?_⟩
  have hN := hs.nm.2.2
  have hsh : Shw (.tuple (lds.map ldD)) := SH hN (by omega) hG
  walk_at "hd"
  walk_at "rk"
  refine ⟨hsh, ?_⟩
  walk_at "hd"
  walk_at "rk"
  refine ⟨⟨by decide, by decide⟩, fun j Δ M' => ∃ (k6 k7 k8 : Option DV), Δ = [some (.dat (.list (ns.map PyData.int))), some (.dat (.int (i : Int))), some (.own p), some (.own q), some (.dat (.tuple (lds.map ldD))), some (.dat (.str (PyData.tuple (lds.map ldD)).shown)), k6, k7, k8] ∧ Hs M' p q c ls 61 ∧ Pen M' p, ⟨_, _, _, rfl, hs2, f2.1⟩, ?_, ?_⟩
  ·rintro j Δ M' hj ⟨k6, k7, k8, rfl, hsj, hpj⟩
   rw [ZY]
   walk_at "hd"
   walk_at "rk"
   refine ⟨c, ls, 61, ⟨hpj, hsj, by decide⟩, fun u v M6 f6 => ?_⟩
   have hs6 := hsj.fr f6
   obtain ⟨f', ox', oy', eq', _⟩ := hs6.h1
   walk_at "hd"
   walk_at "rk"
   rw [eq']
   walk_at "rk"
   have l6 := hs.nm.1
   have ln := List.length_map (as := ls) PyData.str
   refine ⟨by omega, fun n acc M7 => ∃ ss : List Str, acc = ss.map PyData.str ∧ ss.length ≤ n ∧ (∀ s ∈ ss, s ∈ ls) ∧ Fr p M6 M7, ⟨[], rfl, Nat.le_refl _, fun s hs => (nomatch hs), Fr.refl f6.1⟩, ?_, ?_⟩
   ·rintro n d acc M7 hd ⟨ss, rfl, hsl, hsm, f7⟩
    obtain ⟨s, es, rfl⟩ := ZF hd
    refine ⟨f7.1, fun r8 M8 a8 b8 f8 => Zz (fun z => ⟨ss ++ [s], by rw [List.map_append]; rfl, by rw [List.length_append, List.length_singleton]; omega, fun t ht => ?_, f7.trans f8⟩) fun z => ⟨ss, rfl, by omega, hsm, f7.trans f8⟩⟩
    rcases List.mem_append.mp ht with ht | ht
    ·exact hsm t ht
    ·rw [List.mem_singleton.mp ht]
     exact List.mem_of_getElem? es
   ·rintro acc M7 ⟨ss, rfl, hsl, hsm, f7⟩
    refine ⟨ss, rfl, by omega, fun ss' pr' _ => ?_⟩
    subst_vars
    walk_at "rk"
    refine ⟨lds, rfl, ss', rfl, ⟨hO, fun l hl => ⟨(hN _ (hG l hl).1).lay, (hG l hl).2.1.lay hN⟩, fun s hs' => (hN _ (hsm s (pr'.mem_iff.mp hs'))).lay, by rw [pr'.length_eq]; omega⟩, fun M8 hM8 => ?_⟩
    exact ⟨_, _, _, rfl, (hs6.fr f7).keep hM8, f7.1.keep hM8⟩
  ·rintro Δ M' ⟨k6, k7, k8, rfl, hsj, hpj⟩
   subst_vars
   walk_at "rk"
   exact ⟨hsh, _, _, _, _, _, _, _, _, rfl⟩
 ·rintro Δ M' ⟨k1, k2, k3, k4, k5, k6, k7, k8, rfl⟩
  subst_vars
  walk_at "rk"
  exact h _
end
theorem KZ {α : Type} {l : List α} (h : l.length = 1) : ∃ a0, l = [a0] := by
 match l, h with
 | [a0], _ => exact ⟨a0, rfl⟩
theorem J0 {α : Type} {l : List α} (h : l.length = 2) : ∃ a0 a1, l = [a0, a1] := by
 match l, h with
 | [a0, a1], _ => exact ⟨a0, a1, rfl⟩
theorem XC {α : Type} {l : List α} (h : l.length = 3) : ∃ a0 a1 a2, l = [a0, a1, a2] := by
 match l, h with
 | [a0, a1, a2], _ => exact ⟨a0, a1, a2, rfl⟩
theorem all_mk {l : PySem.W.OpenLaw} {w : World} {K : PySem.W.Frag} {h : Heap} {mg : Str → Option Value} {fa : Addr} (X : K.In h) (G : h.Ns mainGlobals mg) (hfa : mg "law" = some (.ref fa))
  {f0 : Addr} {od0 an0 : Option Addr} {sl0 : Array (Option Value)} {oc0 kV0 dc0 pm0 cd0 ct0 : Value} {f1 : Addr} {od1 an1 : Option Addr} {sl1 : Array (Option Value)} {oc1 kV1 dc1 pm1 cd1 ct1 : Value} {f2 : Addr} {od2 an2 : Option Addr} {sl2 : Array (Option Value)} {oc2 kV2 dc2 pm2 cd2 ct2 : Value} {f3 : Addr} {od3 an3 : Option Addr} {sl3 : Array (Option Value)} {oc3 kV3 dc3 pm3 cd3 ct3 : Value} {f4 : Addr} {od4 an4 : Option Addr} {sl4 : Array (Option Value)} {oc4 kV4 dc4 pm4 cd4 ct4 : Value} {f5 : Addr} {od5 an5 : Option Addr} {sl5 : Array (Option Value)} {oc5 kV5 dc5 pm5 cd5 ct5 : Value} {f6 : Addr} {od6 an6 : Option Addr} {sl6 : Array (Option Value)} {oc6 kV6 dc6 pm6 cd6 ct6 : Value} {f7 : Addr} {od7 an7 : Option Addr} {sl7 : Array (Option Value)} {oc7 kV7 dc7 pm7 cd7 ct7 : Value} {f8 : Addr} {od8 an8 : Option Addr} {sl8 : Array (Option Value)} {oc8 kV8 dc8 pm8 cd8 ct8 : Value} {f9 : Addr} {od9 an9 : Option Addr} {sl9 : Array (Option Value)} {oc9 kV9 dc9 pm9 cd9 ct9 : Value} {f10 : Addr} {od10 an10 : Option Addr} {sl10 : Array (Option Value)} {oc10 kV10 dc10 pm10 cd10 ct10 : Value} {f11 : Addr} {od11 an11 : Option Addr} {sl11 : Array (Option Value)} {oc11 kV11 dc11 pm11 cd11 ct11 : Value} {f12 : Addr} {od12 an12 : Option Addr} {sl12 : Array (Option Value)} {oc12 kV12 dc12 pm12 cd12 ct12 : Value} {f13 : Addr} {od13 an13 : Option Addr} {sl13 : Array (Option Value)} {oc13 kV13 dc13 pm13 cd13 ct13 : Value} {f14 : Addr} {od14 an14 : Option Addr} {sl14 : Array (Option Value)} {oc14 kV14 dc14 pm14 cd14 ct14 : Value} {f15 : Addr} {od15 an15 : Option Addr} {sl15 : Array (Option Value)} {oc15 kV15 dc15 pm15 cd15 ct15 : Value} {f16 : Addr} {od16 an16 : Option Addr} {sl16 : Array (Option Value)} {oc16 kV16 dc16 pm16 cd16 ct16 : Value} {f17 : Addr} {od17 an17 : Option Addr} {sl17 : Array (Option Value)} {oc17 kV17 dc17 pm17 cd17 ct17 : Value} {f18 : Addr} {od18 an18 : Option Addr} {sl18 : Array (Option Value)} {oc18 kV18 dc18 pm18 cd18 ct18 : Value} {f19 : Addr} {od19 an19 : Option Addr} {sl19 : Array (Option Value)} {oc19 kV19 dc19 pm19 cd19 ct19 : Value} {f20 : Addr} {od20 an20 : Option Addr} {sl20 : Array (Option Value)} {oc20 kV20 dc20 pm20 cd20 ct20 : Value} {f21 : Addr} {od21 an21 : Option Addr} {sl21 : Array (Option Value)} {oc21 kV21 dc21 pm21 cd21 ct21 : Value} {f22 : Addr} {od22 an22 : Option Addr} {sl22 : Array (Option Value)} {oc22 kV22 dc22 pm22 cd22 ct22 : Value} {f23 : Addr} {od23 an23 : Option Addr} {sl23 : Array (Option Value)} {oc23 kV23 dc23 pm23 cd23 ct23 : Value} {f24 : Addr} {od24 an24 : Option Addr} {sl24 : Array (Option Value)} {oc24 kV24 dc24 pm24 cd24 ct24 : Value} {f25 : Addr} {od25 an25 : Option Addr} {sl25 : Array (Option Value)} {oc25 kV25 dc25 pm25 cd25 ct25 : Value} {f26 : Addr} {od26 an26 : Option Addr} {sl26 : Array (Option Value)} {oc26 kV26 dc26 pm26 cd26 ct26 : Value} {f27 : Addr} {od27 an27 : Option Addr} {sl27 : Array (Option Value)} {oc27 kV27 dc27 pm27 cd27 ct27 : Value} {f28 : Addr} {od28 an28 : Option Addr} {sl28 : Array (Option Value)} {oc28 kV28 dc28 pm28 cd28 ct28 : Value} {f29 : Addr} {od29 an29 : Option Addr} {sl29 : Array (Option Value)} {oc29 kV29 dc29 pm29 cd29 ct29 : Value} {f30 : Addr} {od30 an30 : Option Addr} {sl30 : Array (Option Value)} {oc30 kV30 dc30 pm30 cd30 ct30 : Value} {f31 : Addr} {od31 an31 : Option Addr} {sl31 : Array (Option Value)} {oc31 kV31 dc31 pm31 cd31 ct31 : Value}
  (a0 : PySem.W.nsIn K mainGlobals "has_spots" = some (some (.ref f0))) (l0 : K.lookup f0 = some ⟨oc0, od0, .func (PySem.W.fnOf "has_spots" "has_spots" (Zu Qs) (Zq Qs) (Zf Qs) .none kV0 dc0 pm0 an0 cd0 ct0), sl0⟩) (c0 : PySem.W.codeIn K cd0 "has_spots" = true) (k0 : PySem.W.keepIn K (.ref f0) = true)
  (a1 : PySem.W.nsIn K mainGlobals "steps_to" = some (some (.ref f1))) (l1 : K.lookup f1 = some ⟨oc1, od1, .func (PySem.W.fnOf "steps_to" "steps_to" (Zu QG) (Zq QG) (Zf QG) .none kV1 dc1 pm1 an1 cd1 ct1), sl1⟩) (c1 : PySem.W.codeIn K cd1 "steps_to" = true) (k1 : PySem.W.keepIn K (.ref f1) = true)
  (a2 : PySem.W.nsIn K mainGlobals "steps_between" = some (some (.ref f2))) (l2 : K.lookup f2 = some ⟨oc2, od2, .func (PySem.W.fnOf "steps_between" "steps_between" (Zu Z0) (Zq Z0) (Zf Z0) .none kV2 dc2 pm2 an2 cd2 ct2), sl2⟩) (c2 : PySem.W.codeIn K cd2 "steps_between" = true) (k2 : PySem.W.keepIn K (.ref f2) = true)
  (a3 : PySem.W.nsIn K mainGlobals "gap" = some (some (.ref f3))) (l3 : K.lookup f3 = some ⟨oc3, od3, .func (PySem.W.fnOf "gap" "gap" (Zu CJ) (Zq CJ) (Zf CJ) .none kV3 dc3 pm3 an3 cd3 ct3), sl3⟩) (c3 : PySem.W.codeIn K cd3 "gap" = true) (k3 : PySem.W.keepIn K (.ref f3) = true)
  (a4 : PySem.W.nsIn K mainGlobals "square" = some (some (.ref f4))) (l4 : K.lookup f4 = some ⟨oc4, od4, .func (PySem.W.fnOf "square" "square" (Zu JF) (Zq JF) (Zf JF) .none kV4 dc4 pm4 an4 cd4 ct4), sl4⟩) (c4 : PySem.W.codeIn K cd4 "square" = true) (k4 : PySem.W.keepIn K (.ref f4) = true)
  (a5 : PySem.W.nsIn K mainGlobals "common" = some (some (.ref f5))) (l5 : K.lookup f5 = some ⟨oc5, od5, .func (PySem.W.fnOf "common" "common" (Zu JE) (Zq JE) (Zf JE) .none kV5 dc5 pm5 an5 cd5 ct5), sl5⟩) (c5 : PySem.W.codeIn K cd5 "common" = true) (k5 : PySem.W.keepIn K (.ref f5) = true)
  (a6 : PySem.W.nsIn K mainGlobals "cut_out" = some (some (.ref f6))) (l6 : K.lookup f6 = some ⟨oc6, od6, .func (PySem.W.fnOf "cut_out" "cut_out" (Zu QO) (Zq QO) (Zf QO) .none kV6 dc6 pm6 an6 cd6 ct6), sl6⟩) (c6 : PySem.W.codeIn K cd6 "cut_out" = true) (k6 : PySem.W.keepIn K (.ref f6) = true)
  (a7 : PySem.W.nsIn K mainGlobals "left_over" = some (some (.ref f7))) (l7 : K.lookup f7 = some ⟨oc7, od7, .func (PySem.W.fnOf "left_over" "left_over" (Zu Qr) (Zq Qr) (Zf Qr) .none kV7 dc7 pm7 an7 cd7 ct7), sl7⟩) (c7 : PySem.W.codeIn K cd7 "left_over" = true) (k7 : PySem.W.keepIn K (.ref f7) = true)
  (a8 : PySem.W.nsIn K mainGlobals "side" = some (some (.ref f8))) (l8 : K.lookup f8 = some ⟨oc8, od8, .func (PySem.W.fnOf "side" "side" (Zu Xf) (Zq Xf) (Zf Xf) .none kV8 dc8 pm8 an8 cd8 ct8), sl8⟩) (c8 : PySem.W.codeIn K cd8 "side" = true) (k8 : PySem.W.keepIn K (.ref f8) = true)
  (a9 : PySem.W.nsIn K mainGlobals "steps_away" = some (some (.ref f9))) (l9 : K.lookup f9 = some ⟨oc9, od9, .func (PySem.W.fnOf "steps_away" "steps_away" (Zu Z4) (Zq Z4) (Zf Z4) .none kV9 dc9 pm9 an9 cd9 ct9), sl9⟩) (c9 : PySem.W.codeIn K cd9 "steps_away" = true) (k9 : PySem.W.keepIn K (.ref f9) = true)
  (a10 : PySem.W.nsIn K mainGlobals "level" = some (some (.ref f10))) (l10 : K.lookup f10 = some ⟨oc10, od10, .func (PySem.W.fnOf "level" "level" (Zu Vb) (Zq Vb) (Zf Vb) .none kV10 dc10 pm10 an10 cd10 ct10), sl10⟩) (c10 : PySem.W.codeIn K cd10 "level" = true) (k10 : PySem.W.keepIn K (.ref f10) = true)
  (a11 : PySem.W.nsIn K mainGlobals "looked" = some (some (.ref f11))) (l11 : K.lookup f11 = some ⟨oc11, od11, .func (PySem.W.fnOf "looked" "looked" (Zu JI) (Zq JI) (Zf JI) .none kV11 dc11 pm11 an11 cd11 ct11), sl11⟩) (c11 : PySem.W.codeIn K cd11 "looked" = true) (k11 : PySem.W.keepIn K (.ref f11) = true)
  (a12 : PySem.W.nsIn K mainGlobals "outer_first" = some (some (.ref f12))) (l12 : K.lookup f12 = some ⟨oc12, od12, .func (PySem.W.fnOf "outer_first" "outer_first" (Zu ZO) (Zq ZO) (Zf ZO) .none kV12 dc12 pm12 an12 cd12 ct12), sl12⟩) (c12 : PySem.W.codeIn K cd12 "outer_first" = true) (k12 : PySem.W.keepIn K (.ref f12) = true)
  (a13 : PySem.W.nsIn K mainGlobals "keeps" = some (some (.ref f13))) (l13 : K.lookup f13 = some ⟨oc13, od13, .func (PySem.W.fnOf "keeps" "keeps" (Zu Vx) (Zq Vx) (Zf Vx) .none kV13 dc13 pm13 an13 cd13 ct13), sl13⟩) (c13 : PySem.W.codeIn K cd13 "keeps" = true) (k13 : PySem.W.keepIn K (.ref f13) = true)
  (a14 : PySem.W.nsIn K mainGlobals "_law_pen" = some (some (.ref f14))) (l14 : K.lookup f14 = some ⟨oc14, od14, .func (PySem.W.fnOf "_law_pen" "_law_pen" (Zu Cm) (Zq Cm) (Zf Cm) .none kV14 dc14 pm14 an14 cd14 ct14), sl14⟩) (c14 : PySem.W.codeIn K cd14 "_law_pen" = true) (k14 : PySem.W.keepIn K (.ref f14) = true)
  (a15 : PySem.W.nsIn K mainGlobals "_law_draw" = some (some (.ref f15))) (l15 : K.lookup f15 = some ⟨oc15, od15, .func (PySem.W.fnOf "_law_draw" "_law_draw" (Zu Xa) (Zq Xa) (Zf Xa) .none kV15 dc15 pm15 an15 cd15 ct15), sl15⟩) (c15 : PySem.W.codeIn K cd15 "_law_draw" = true) (k15 : PySem.W.keepIn K (.ref f15) = true)
  (a16 : PySem.W.nsIn K mainGlobals "_law_names" = some (some (.ref f16))) (l16 : K.lookup f16 = some ⟨oc16, od16, .func (PySem.W.fnOf "_law_names" "_law_names" (Zu QY) (Zq QY) (Zf QY) .none kV16 dc16 pm16 an16 cd16 ct16), sl16⟩) (c16 : PySem.W.codeIn K cd16 "_law_names" = true) (k16 : PySem.W.keepIn K (.ref f16) = true)
  (a17 : PySem.W.nsIn K mainGlobals "_law_alike" = some (some (.ref f17))) (l17 : K.lookup f17 = some ⟨oc17, od17, .func (PySem.W.fnOf "_law_alike" "_law_alike" (Zu J2) (Zq J2) (Zf J2) .none kV17 dc17 pm17 an17 cd17 ct17), sl17⟩) (c17 : PySem.W.codeIn K cd17 "_law_alike" = true) (k17 : PySem.W.keepIn K (.ref f17) = true)
  (a18 : PySem.W.nsIn K mainGlobals "_law_frame" = some (some (.ref f18))) (l18 : K.lookup f18 = some ⟨oc18, od18, .func (PySem.W.fnOf "_law_frame" "_law_frame" (Zu Vw) (Zq Vw) (Zf Vw) .none kV18 dc18 pm18 an18 cd18 ct18), sl18⟩) (c18 : PySem.W.codeIn K cd18 "_law_frame" = true) (k18 : PySem.W.keepIn K (.ref f18) = true)
  (a19 : PySem.W.nsIn K mainGlobals "_law_boxes" = some (some (.ref f19))) (l19 : K.lookup f19 = some ⟨oc19, od19, .func (PySem.W.fnOf "_law_boxes" "_law_boxes" (Zu Vt) (Zq Vt) (Zf Vt) .none kV19 dc19 pm19 an19 cd19 ct19), sl19⟩) (c19 : PySem.W.codeIn K cd19 "_law_boxes" = true) (k19 : PySem.W.keepIn K (.ref f19) = true)
  (a20 : PySem.W.nsIn K mainGlobals "_law_laid" = some (some (.ref f20))) (l20 : K.lookup f20 = some ⟨oc20, od20, .func (PySem.W.fnOf "_law_laid" "_law_laid" (Zu Xe) (Zq Xe) (Zf Xe) .none kV20 dc20 pm20 an20 cd20 ct20), sl20⟩) (c20 : PySem.W.codeIn K cd20 "_law_laid" = true) (k20 : PySem.W.keepIn K (.ref f20) = true)
  (a21 : PySem.W.nsIn K mainGlobals "_law_spot" = some (some (.ref f21))) (l21 : K.lookup f21 = some ⟨oc21, od21, .func (PySem.W.fnOf "_law_spot" "_law_spot" (Zu Xb) (Zq Xb) (Zf Xb) .none kV21 dc21 pm21 an21 cd21 ct21), sl21⟩) (c21 : PySem.W.codeIn K cd21 "_law_spot" = true) (k21 : PySem.W.keepIn K (.ref f21) = true)
  (a22 : PySem.W.nsIn K mainGlobals "_law_land" = some (some (.ref f22))) (l22 : K.lookup f22 = some ⟨oc22, od22, .func (PySem.W.fnOf "_law_land" "_law_land" (Zu Yj) (Zq Yj) (Zf Yj) .none kV22 dc22 pm22 an22 cd22 ct22), sl22⟩) (c22 : PySem.W.codeIn K cd22 "_law_land" = true) (k22 : PySem.W.keepIn K (.ref f22) = true)
  (a23 : PySem.W.nsIn K mainGlobals "_law_has" = some (some (.ref f23))) (l23 : K.lookup f23 = some ⟨oc23, od23, .func (PySem.W.fnOf "_law_has" "_law_has" (Zu J9) (Zq J9) (Zf J9) .none kV23 dc23 pm23 an23 cd23 ct23), sl23⟩) (c23 : PySem.W.codeIn K cd23 "_law_has" = true) (k23 : PySem.W.keepIn K (.ref f23) = true)
  (a24 : PySem.W.nsIn K mainGlobals "_law_side" = some (some (.ref f24))) (l24 : K.lookup f24 = some ⟨oc24, od24, .func (PySem.W.fnOf "_law_side" "_law_side" (Zu Qt) (Zq Qt) (Zf Qt) .none kV24 dc24 pm24 an24 cd24 ct24), sl24⟩) (c24 : PySem.W.codeIn K cd24 "_law_side" = true) (k24 : PySem.W.keepIn K (.ref f24) = true)
  (a25 : PySem.W.nsIn K mainGlobals "_law_levels" = some (some (.ref f25))) (l25 : K.lookup f25 = some ⟨oc25, od25, .func (PySem.W.fnOf "_law_levels" "_law_levels" (Zu JH) (Zq JH) (Zf JH) .none kV25 dc25 pm25 an25 cd25 ct25), sl25⟩) (c25 : PySem.W.codeIn K cd25 "_law_levels" = true) (k25 : PySem.W.keepIn K (.ref f25) = true)
  (a26 : PySem.W.nsIn K mainGlobals "_law_look" = some (some (.ref f26))) (l26 : K.lookup f26 = some ⟨oc26, od26, .func (PySem.W.fnOf "_law_look" "_law_look" (Zu YA) (Zq YA) (Zf YA) .none kV26 dc26 pm26 an26 cd26 ct26), sl26⟩) (c26 : PySem.W.codeIn K cd26 "_law_look" = true) (k26 : PySem.W.keepIn K (.ref f26) = true)
  (a27 : PySem.W.nsIn K mainGlobals "_law_house" = some (some (.ref f27))) (l27 : K.lookup f27 = some ⟨oc27, od27, .func (PySem.W.fnOf "_law_house" "_law_house" (Zu Vu) (Zq Vu) (Zf Vu) .none kV27 dc27 pm27 an27 cd27 ct27), sl27⟩) (c27 : PySem.W.codeIn K cd27 "_law_house" = true) (k27 : PySem.W.keepIn K (.ref f27) = true)
  (a28 : PySem.W.nsIn K mainGlobals "_law_lands" = some (some (.ref f28))) (l28 : K.lookup f28 = some ⟨oc28, od28, .func (PySem.W.fnOf "_law_lands" "_law_lands" (Zu Vy) (Zq Vy) (Zf Vy) .none kV28 dc28 pm28 an28 cd28 ct28), sl28⟩) (c28 : PySem.W.codeIn K cd28 "_law_lands" = true) (k28 : PySem.W.keepIn K (.ref f28) = true)
  (a29 : PySem.W.nsIn K mainGlobals "_law_right" = some (some (.ref f29))) (l29 : K.lookup f29 = some ⟨oc29, od29, .func (PySem.W.fnOf "_law_right" "_law_right" (Zu J7) (Zq J7) (Zf J7) .none kV29 dc29 pm29 an29 cd29 ct29), sl29⟩) (c29 : PySem.W.codeIn K cd29 "_law_right" = true) (k29 : PySem.W.keepIn K (.ref f29) = true)
  (a30 : PySem.W.nsIn K mainGlobals "_law_deep_right" = some (some (.ref f30))) (l30 : K.lookup f30 = some ⟨oc30, od30, .func (PySem.W.fnOf "_law_deep_right" "_law_deep_right" (Zu Z3) (Zq Z3) (Zf Z3) .none kV30 dc30 pm30 an30 cd30 ct30), sl30⟩) (c30 : PySem.W.codeIn K cd30 "_law_deep_right" = true) (k30 : PySem.W.keepIn K (.ref f30) = true)
  (a31 : PySem.W.nsIn K mainGlobals "law" = some (some (.ref f31))) (l31 : K.lookup f31 = some ⟨oc31, od31, .func (PySem.W.fnOf "law" "law" (Zu Gk) (Zq Gk) (Zf Gk) .none kV31 dc31 pm31 an31 cd31 ct31), sl31⟩) (c31 : PySem.W.codeIn K cd31 "law" = true) (k31 : PySem.W.keepIn K (.ref f31) = true)
  (z0 : PySem.W.nsIn K mainGlobals "abs" = some none)
  (z1 : PySem.W.nsIn K mainGlobals "all" = some none)
  (z2 : PySem.W.nsIn K mainGlobals "any" = some none)
  (z3 : PySem.W.nsIn K mainGlobals "bool" = some none)
  (z4 : PySem.W.nsIn K mainGlobals "dict" = some none)
  (z5 : PySem.W.nsIn K mainGlobals "int" = some none)
  (z6 : PySem.W.nsIn K mainGlobals "isinstance" = some none)
  (z7 : PySem.W.nsIn K mainGlobals "len" = some none)
  (z8 : PySem.W.nsIn K mainGlobals "list" = some none)
  (z9 : PySem.W.nsIn K mainGlobals "max" = some none)
  (z10 : PySem.W.nsIn K mainGlobals "min" = some none)
  (z11 : PySem.W.nsIn K mainGlobals "range" = some none)
  (z12 : PySem.W.nsIn K mainGlobals "repr" = some none)
  (z13 : PySem.W.nsIn K mainGlobals "sorted" = some none)
  (z14 : PySem.W.nsIn K mainGlobals "str" = some none)
  (z15 : PySem.W.nsIn K mainGlobals "tuple" = some none)
  (z16 : PySem.W.nsIn K mainGlobals "zip" = some none) :
  ∃ fd : FuncData, (∀ (s : Shared) (v : Value), BindsTo s fd ⟨[v], []⟩ [("_law_script", v)]) ∧ ∀ base : Heap, K.In base → base.Ns mainGlobals mg → ZT l.prog w K mg base CX0 10 fa fd ["_law_script"] (lift K Dw) := by
 have e := hfa.symm.trans (PySem.W.mg_of X G a31)
 cases e
 have F0 := ZQ (st := Qs) l0 c0 k0
 have b0 := F0.binds (ps := ["box"]) fun _ _ _ _ _ _ us hl => by obtain ⟨_, rfl⟩ := KZ hl; rfl
 have F1 := ZQ (st := QG) l1 c1 k1
 have b1 := F1.binds (ps := ["box", "spot"]) fun _ _ _ _ _ _ us hl => by obtain ⟨_, _, rfl⟩ := J0 hl; rfl
 have F2 := ZQ (st := Z0) l2 c2 k2
 have b2 := F2.binds (ps := ["one", "other"]) fun _ _ _ _ _ _ us hl => by obtain ⟨_, _, rfl⟩ := J0 hl; rfl
 have F3 := ZQ (st := CJ) l3 c3 k3
 have b3 := F3.binds (ps := ["one", "other", "way"]) fun _ _ _ _ _ _ us hl => by obtain ⟨_, _, _, rfl⟩ := XC hl; rfl
 have F4 := ZQ (st := JF) l4 c4 k4
 have b4 := F4.binds (ps := ["spot", "r"]) fun _ _ _ _ _ _ us hl => by obtain ⟨_, _, rfl⟩ := J0 hl; rfl
 have F5 := ZQ (st := JE) l5 c5 k5
 have b5 := F5.binds (ps := ["one", "other"]) fun _ _ _ _ _ _ us hl => by obtain ⟨_, _, rfl⟩ := J0 hl; rfl
 have F6 := ZQ (st := QO) l6 c6 k6
 have b6 := F6.binds (ps := ["one", "other"]) fun _ _ _ _ _ _ us hl => by obtain ⟨_, _, rfl⟩ := J0 hl; rfl
 have F7 := ZQ (st := Qr) l7 c7 k7
 have b7 := F7.binds (ps := ["box", "others"]) fun _ _ _ _ _ _ us hl => by obtain ⟨_, _, rfl⟩ := J0 hl; rfl
 have F8 := ZQ (st := Xf) l8 c8 k8
 have b8 := F8.binds (ps := ["shape", "wobble", "spot"]) fun _ _ _ _ _ _ us hl => by obtain ⟨_, _, _, rfl⟩ := XC hl; rfl
 have F9 := ZQ (st := Z4) l9 c9 k9
 have b9 := F9.binds (ps := ["pieces", "spot"]) fun _ _ _ _ _ _ us hl => by obtain ⟨_, _, rfl⟩ := J0 hl; rfl
 have F10 := ZQ (st := Vb) l10 c10 k10
 have b10 := F10.binds (ps := ["lands", "land"]) fun _ _ _ _ _ _ us hl => by obtain ⟨_, _, rfl⟩ := J0 hl; rfl
 have F11 := ZQ (st := JI) l11 c11 k11
 have b11 := F11.binds (ps := ["lands", "held", "spot"]) fun _ _ _ _ _ _ us hl => by obtain ⟨_, _, _, rfl⟩ := XC hl; rfl
 have F12 := ZQ (st := ZO) l12 c12 k12
 have b12 := F12.binds (ps := ["lands"]) fun _ _ _ _ _ _ us hl => by obtain ⟨_, rfl⟩ := KZ hl; rfl
 have F13 := ZQ (st := Vx) l13 c13 k13
 have b13 := F13.binds (ps := ["row", "held", "spot"]) fun _ _ _ _ _ _ us hl => by obtain ⟨_, _, _, rfl⟩ := XC hl; rfl
 have F14 := ZQ (st := Cm) l14 c14 k14
 have b14 := F14.binds (ps := ["_law_script", "_law_k"]) fun _ _ _ _ _ _ us hl => by obtain ⟨_, _, rfl⟩ := J0 hl; rfl
 have F15 := ZQ (st := Xa) l15 c15 k15
 have b15 := F15.binds (ps := ["_law_pen_here", "_law_many"]) fun _ _ _ _ _ _ us hl => by obtain ⟨_, _, rfl⟩ := J0 hl; rfl
 have F16 := ZQ (st := QY) l16 c16 k16
 have b16 := F16.binds (ps := ["_law_pen_here", "_law_many"]) fun _ _ _ _ _ _ us hl => by obtain ⟨_, _, rfl⟩ := J0 hl; rfl
 have F17 := ZQ (st := J2) l17 c17 k17
 have b17 := F17.binds (ps := ["_law_found", "_law_due"]) fun _ _ _ _ _ _ us hl => by obtain ⟨_, _, rfl⟩ := J0 hl; rfl
 have F18 := ZQ (st := Vw) l18 c18 k18
 have b18 := F18.binds (ps := ["_law_pen_here"]) fun _ _ _ _ _ _ us hl => by obtain ⟨_, rfl⟩ := KZ hl; rfl
 have F19 := ZQ (st := Vt) l19 c19 k19
 have b19 := F19.binds (ps := ["_law_pen_here"]) fun _ _ _ _ _ _ us hl => by obtain ⟨_, rfl⟩ := KZ hl; rfl
 have F20 := ZQ (st := Xe) l20 c20 k20
 have b20 := F20.binds (ps := ["_law_frame_here", "_law_spot_here", "_law_more"]) fun _ _ _ _ _ _ us hl => by obtain ⟨_, _, _, rfl⟩ := XC hl; rfl
 have F21 := ZQ (st := Xb) l21 c21 k21
 have b21 := F21.binds (ps := ["_law_pen_here", "_law_house_here"]) fun _ _ _ _ _ _ us hl => by obtain ⟨_, _, rfl⟩ := J0 hl; rfl
 have F22 := ZQ (st := Yj) l22 c22 k22
 have b22 := F22.binds (ps := ["_law_pen_here", "_law_house_here"]) fun _ _ _ _ _ _ us hl => by obtain ⟨_, _, rfl⟩ := J0 hl; rfl
 have F23 := ZQ (st := J9) l23 c23 k23
 have b23 := F23.binds (ps := ["_law_shape", "_law_x", "_law_y"]) fun _ _ _ _ _ _ us hl => by obtain ⟨_, _, _, rfl⟩ := XC hl; rfl
 have F24 := ZQ (st := Qt) l24 c24 k24
 have b24 := F24.binds (ps := ["_law_shape", "_law_wobble", "_law_spot_here"]) fun _ _ _ _ _ _ us hl => by obtain ⟨_, _, _, rfl⟩ := XC hl; rfl
 have F25 := ZQ (st := JH) l25 c25 k25
 have b25 := F25.binds (ps := ["_law_lands_here"]) fun _ _ _ _ _ _ us hl => by obtain ⟨_, rfl⟩ := KZ hl; rfl
 have F26 := ZQ (st := YA) l26 c26 k26
 have b26 := F26.binds (ps := ["_law_lands_here", "_law_held", "_law_spot_here"]) fun _ _ _ _ _ _ us hl => by obtain ⟨_, _, _, rfl⟩ := XC hl; rfl
 have F27 := ZQ (st := Vu) l27 c27 k27
 have b27 := F27.binds (ps := ["_law_pen_here"]) fun _ _ _ _ _ _ us hl => by obtain ⟨_, rfl⟩ := KZ hl; rfl
 have F28 := ZQ (st := Vy) l28 c28 k28
 have b28 := F28.binds (ps := ["_law_pen_here", "_law_house_here"]) fun _ _ _ _ _ _ us hl => by obtain ⟨_, _, rfl⟩ := J0 hl; rfl
 have F29 := ZQ (st := J7) l29 c29 k29
 have b29 := F29.binds (ps := ["_law_lands_here", "_law_held", "_law_spot_here"]) fun _ _ _ _ _ _ us hl => by obtain ⟨_, _, _, rfl⟩ := XC hl; rfl
 have F30 := ZQ (st := Z3) l30 c30 k30
 have b30 := F30.binds (ps := ["_law_pen_here"]) fun _ _ _ _ _ _ us hl => by obtain ⟨_, rfl⟩ := KZ hl; rfl
 have F31 := ZQ (st := Gk) l31 c31 k31
 have b31 := F31.binds (ps := ["_law_script"]) fun _ _ _ _ _ _ us hl => by obtain ⟨_, rfl⟩ := KZ hl; rfl
 let T : Tx K mg := ⟨_, _, ⟨F0, PySem.W.mg_of X G a0, b0⟩, _, _, ⟨F1, PySem.W.mg_of X G a1, b1⟩, _, _, ⟨F2, PySem.W.mg_of X G a2, b2⟩, _, _, ⟨F3, PySem.W.mg_of X G a3, b3⟩, _, _, ⟨F4, PySem.W.mg_of X G a4, b4⟩, _, _, ⟨F5, PySem.W.mg_of X G a5, b5⟩, _, _, ⟨F6, PySem.W.mg_of X G a6, b6⟩, _, _, ⟨F7, PySem.W.mg_of X G a7, b7⟩, _, _, ⟨F8, PySem.W.mg_of X G a8, b8⟩, _, _, ⟨F9, PySem.W.mg_of X G a9, b9⟩, _, _, ⟨F10, PySem.W.mg_of X G a10, b10⟩, _, _, ⟨F11, PySem.W.mg_of X G a11, b11⟩, _, _, ⟨F12, PySem.W.mg_of X G a12, b12⟩, _, _, ⟨F13, PySem.W.mg_of X G a13, b13⟩, _, _, ⟨F14, PySem.W.mg_of X G a14, b14⟩, _, _, ⟨F15, PySem.W.mg_of X G a15, b15⟩, _, _, ⟨F16, PySem.W.mg_of X G a16, b16⟩, _, _, ⟨F17, PySem.W.mg_of X G a17, b17⟩, _, _, ⟨F18, PySem.W.mg_of X G a18, b18⟩, _, _, ⟨F19, PySem.W.mg_of X G a19, b19⟩, _, _, ⟨F20, PySem.W.mg_of X G a20, b20⟩, _, _, ⟨F21, PySem.W.mg_of X G a21, b21⟩, _, _, ⟨F22, PySem.W.mg_of X G a22, b22⟩, _, _, ⟨F23, PySem.W.mg_of X G a23, b23⟩, _, _, ⟨F24, PySem.W.mg_of X G a24, b24⟩, _, _, ⟨F25, PySem.W.mg_of X G a25, b25⟩, _, _, ⟨F26, PySem.W.mg_of X G a26, b26⟩, _, _, ⟨F27, PySem.W.mg_of X G a27, b27⟩, _, _, ⟨F28, PySem.W.mg_of X G a28, b28⟩, _, _, ⟨F29, PySem.W.mg_of X G a29, b29⟩, _, _, ⟨F30, PySem.W.mg_of X G a30, b30⟩, _, _, ⟨F31, PySem.W.mg_of X G a31, b31⟩, PySem.W.mg_none_of X G z0, PySem.W.mg_none_of X G z1, PySem.W.mg_none_of X G z2, PySem.W.mg_none_of X G z3, PySem.W.mg_none_of X G z4, PySem.W.mg_none_of X G z5, PySem.W.mg_none_of X G z6, PySem.W.mg_none_of X G z7, PySem.W.mg_none_of X G z8, PySem.W.mg_none_of X G z9, PySem.W.mg_none_of X G z10, PySem.W.mg_none_of X G z11, PySem.W.mg_none_of X G z12, PySem.W.mg_none_of X G z13, PySem.W.mg_none_of X G z14, PySem.W.mg_none_of X G z15, PySem.W.mg_none_of X G z16⟩
 exact ⟨_, fun s v => .of_eq rfl, fun base _ _ => ZcQ T⟩
theorem walk {l : PySem.W.OpenLaw} {q : Program} {loose : List Str} {XP : (Str → Option Value) → Heap → Prop} {YP : World → Heap → Prop} {d : DefRec} {K : Params → PySem.W.Frag} (hn : l.most = some 63) (hdf : d.params.defaults = [])
  (hY : ∀ (w : World) (h : Heap), YP w h → (K w.params).In h)
  (F : ∀ (w : World) (mg : Str → Option Value) (fa : Addr) (h : Heap), (K w.params).In h → h.Ns mainGlobals mg → mg d.name = some (.ref fa) →
   ∃ fd : FuncData, (∀ (s : Shared) (u : Value), BindsTo s fd ⟨[u], []⟩ [("_law_script", u)]) ∧ ∀ base : Heap, (K w.params).In base → base.Ns mainGlobals mg → ZT l.prog w (K w.params) mg base CX0 10 fa fd ["_law_script"] (lift (K w.params) Dw)) :
  PySem.W.WalkO q loose XP YP l.row.toRowW d [] (fun f vs => PySem.call f vs) :=
 L2.Tq (n := 63) (k := 10) (x := "_law_script") (CX := fun _ => CX0) (sp := fun w => lift (K w.params) Dw) hn (by decide) hdf ⟨rfl, by decide, by decide, rfl⟩ hY F
  (fun w H a ns hl hO hS => FU hl hO hS) fun _ _ _ _ _ z => z
end My
theorem PySem.W.Fast.tw7101577501731005460 : True := trivial
theorem PySem.W.Fast.tw9797964579269772658 : True := trivial
theorem PySem.W.Fast.tw13087605067078967116 : True := trivial
theorem PySem.W.Fast.tw6375548035908971705 : True := trivial
theorem PySem.W.Fast.tw1526400669996848235 : True := trivial
theorem PySem.W.Fast.tw9252065430101704200 : True := trivial
theorem PySem.W.Fast.tw5450846588210351816 : True := trivial
theorem PySem.W.Fast.tw11097874953772211227 : True := trivial
theorem PySem.W.Fast.tw2500284830774063948 : True := trivial
theorem PySem.W.Fast.tw11362277435572553988 : True := trivial
theorem PySem.W.Fast.tw16032179244726757505 : True := trivial
theorem PySem.W.Fast.tw4291383134316582812 : True := trivial
theorem PySem.W.Fast.tw2765112270667175550 : True := trivial
theorem PySem.W.Fast.tw15408055480377706742 : True := trivial
theorem PySem.W.Fast.tw16071935733871645542 : True := trivial
theorem PySem.W.Fast.tw5631043506883479741 : True := trivial
theorem PySem.W.Fast.tw11589625080901053082 : True := trivial
theorem PySem.W.Fast.tw9599440793527206397 : True := trivial
theorem PySem.W.Fast.tw16477594340620431134 : True := trivial
theorem PySem.W.Fast.tw5247184994061605263 : True := trivial
theorem PySem.W.Fast.tw17620441426485724576 : True := trivial
theorem PySem.W.Fast.tw11904023144811942243 : True := trivial
theorem PySem.W.Fast.tw1496074222692465002 : True := trivial
theorem PySem.W.Fast.tw4829510190913471927 : True := trivial
theorem PySem.W.Fast.tw14515952093679743994 : True := trivial
theorem PySem.W.Fast.tw12566176613117119317 : True := trivial
theorem PySem.W.Fast.tw16505630209903968406 : True := trivial
theorem PySem.W.Fast.tw2851174792785367241 : True := trivial
theorem PySem.W.Fast.tw8222560680026395515 : True := trivial
theorem PySem.W.Fast.tw1215445578920416222 : True := trivial
theorem PySem.W.Fast.tw10323595053242935870 : True := trivial
theorem PySem.W.Fast.tw13987081194336841752 : True := trivial
theorem PySem.W.Fast.tw12162560313293964394 : True := trivial
theorem PySem.W.Fast.tw538946502886499716 : True := trivial
theorem PySem.W.Fast.tw17536582248427894296 : True := trivial
theorem PySem.W.Fast.tw2892587399392654161 : True := trivial
theorem PySem.W.Fast.tw14783598260906510139 : True := trivial
theorem PySem.W.Fast.tw14541853572944889651 : True := trivial
theorem PySem.W.Fast.tw15358041638602322783 : True := trivial
theorem PySem.W.Fast.tw4087974816707899128 : True := trivial
theorem PySem.W.Fast.tw2829757399945882416 : True := trivial
theorem PySem.W.Fast.tw12995170838067558734 : True := trivial
theorem PySem.W.Fast.tw5769099776404865656 : True := trivial
theorem PySem.W.Fast.tw7300916246838161045 : True := trivial
theorem PySem.W.Fast.tw60273001366352115 : True := trivial
theorem PySem.W.Fast.tw2888993735591136170 : True := trivial
theorem PySem.W.Fast.tw3865073249783546603 : True := trivial
theorem PySem.W.Fast.tw2825008257955288710 : True := trivial
theorem PySem.W.Fast.tw17551553293513427297 : True := trivial
theorem PySem.W.Fast.tw6561469929528650442 : True := trivial
theorem PySem.W.Fast.tw9749133977433022048 : True := trivial
theorem PySem.W.Fast.tw8962199978348879913 : True := trivial
theorem PySem.W.Fast.tw10183237100385982301 : True := trivial
theorem PySem.W.Fast.tw9129714141723807936 : True := trivial
theorem PySem.W.Fast.tw15082482909303798951 : True := trivial
theorem PySem.W.Fast.tw1348222357743118643 : True := trivial
theorem PySem.W.Fast.tw15449668285170870211 : True := trivial
theorem PySem.W.Fast.tw7158782455734596004 : True := trivial
theorem PySem.W.Fast.tw4400532290303276426 : True := trivial
theorem PySem.W.Fast.tw5875642830405515904 : True := trivial
theorem PySem.W.Fast.tw13737295867806920631 : True := trivial
theorem PySem.W.Fast.tw4954242176606498919 : True := trivial
theorem PySem.W.Fast.tw2946193940828994453 : True := trivial
theorem PySem.W.Fast.tw9995482282259662724 : True := trivial
theorem PySem.W.Fast.tw746493618836426314 : True := trivial
theorem PySem.W.Fast.tw15098127973214730558 : True := trivial
theorem PySem.W.Fast.tw4447926741691335174 : True := trivial
theorem PySem.W.Fast.tw3852128324387168293 : True := trivial
theorem PySem.W.Fast.tw2719149678024519382 : True := trivial
theorem PySem.W.Fast.tw2696634519516715324 : True := trivial
theorem PySem.W.Fast.tw11615174807919335154 : True := trivial
theorem PySem.W.Fast.tw15847701086557289887 : True := trivial
theorem PySem.W.Fast.tw15470826224429034800 : True := trivial
theorem PySem.W.Fast.tw2156972167584032611 : True := trivial
theorem PySem.W.Fast.tw7920761200799781921 : True := trivial
theorem PySem.W.Fast.tw14930521679578270219 : True := trivial
theorem PySem.W.Fast.tw17164230310668791792 : True := trivial
theorem PySem.W.Fast.tw9166710400386452005 : True := trivial
theorem PySem.W.Fast.tw204532450326802220 : True := trivial
theorem PySem.W.Fast.tw4805466067411950137 : True := trivial
theorem PySem.W.Fast.tw4133472176933979991 : True := trivial
theorem PySem.W.Fast.tw16064050800592209237 : True := trivial
theorem PySem.W.Fast.tw6138300705775409931 : True := trivial
theorem PySem.W.Fast.tw12635434904370304279 : True := trivial
theorem PySem.W.Fast.tw5087450305269209398 : True := trivial
theorem PySem.W.Fast.tw7328006301497582905 : True := trivial
theorem PySem.W.Fast.tw12341276456893651893 : True := trivial
theorem PySem.W.Fast.tw787866367619858610 : True := trivial
theorem PySem.W.Fast.tw15294740293532591585 : True := trivial
theorem PySem.W.Fast.tw13822818862448919658 : True := trivial
theorem PySem.W.Fast.tw14445835693824820396 : True := trivial
theorem PySem.W.Fast.tw14489929395934673397 : True := trivial
theorem PySem.W.Fast.tw11354769206874745377 : True := trivial
theorem PySem.W.Fast.tw13371390059940146854 : True := trivial
theorem PySem.W.Fast.tw17458593164101592460 : True := trivial
theorem PySem.W.Fast.tw5646352087074159533 : True := trivial
theorem PySem.W.Fast.tw15231992001854616869 : True := trivial
theorem PySem.W.Fast.tw3218563958475030191 : True := trivial
theorem PySem.W.Fast.tw6791688168788601779 : True := trivial
theorem PySem.W.Fast.tw15883401694239872431 : True := trivial
theorem PySem.W.Fast.tw4813565345340232298 : True := trivial
theorem PySem.W.Fast.tw2694887976543627494 : True := trivial
theorem PySem.W.Fast.tw4762077202281065875 : True := trivial
theorem PySem.W.Fast.tw16784241431876699734 : True := trivial
theorem PySem.W.Fast.tw9672118969530978491 : True := trivial
theorem PySem.W.Fast.tw15401972034754892448 : True := trivial
theorem PySem.W.Fast.tw4923292240498938449 : True := trivial
theorem PySem.W.Fast.tw4423038286179903000 : True := trivial
theorem PySem.W.Fast.tw11669112985528820735 : True := trivial
theorem PySem.W.Fast.tw930185766688105836 : True := trivial
theorem PySem.W.Fast.tw6187239815508682510 : True := trivial
theorem PySem.W.Fast.tw5628296768892432090 : True := trivial
theorem PySem.W.Fast.tw18443288299566848457 : True := trivial
theorem PySem.W.Fast.tw11449625186131526792 : True := trivial
theorem PySem.W.Fast.tw18314182332726489782 : True := trivial
theorem PySem.W.Fast.tw2746436537110022371 : True := trivial
theorem PySem.W.Fast.tw17996233548488904880 : True := trivial
theorem PySem.W.Fast.tw12707455255571826669 : True := trivial
theorem PySem.W.Fast.tw8631357230085161399 : True := trivial
theorem PySem.W.Fast.tw6199540769654915970 : True := trivial
theorem PySem.W.Fast.tw4471989218857686741 : True := trivial
theorem PySem.W.Fast.tw12584413650016853632 : True := trivial
theorem PySem.W.Fast.tw1021355145600161635 : True := trivial
theorem PySem.W.Fast.tw17362817863004719300 : True := trivial
theorem PySem.W.Fast.tw4623005839844647479 : True := trivial
theorem PySem.W.Fast.tw555989083783949540 : True := trivial
theorem PySem.W.Fast.tw13667667559321962239 : True := trivial
theorem PySem.W.Fast.tw9992324757889301109 : True := trivial
theorem PySem.W.Fast.tw13959505526468263009 : True := trivial
theorem PySem.W.Fast.tw9253273942001415170 : True := trivial
theorem PySem.W.Fast.tw17771652767684362623 : True := trivial
theorem PySem.W.Fast.tw5874835035883142571 : True := trivial
theorem PySem.W.Fast.tw15755881406215300622 : True := trivial
theorem PySem.W.Fast.tw6898263970300137589 : True := trivial
theorem PySem.W.Fast.tw16544462096528741595 : True := trivial
theorem PySem.W.Fast.tw510001379184192775 : True := trivial
theorem PySem.W.Fast.tw5467291614727438590 : True := trivial
theorem PySem.W.Fast.tw17422259379111574599 : True := trivial
theorem PySem.W.Fast.tw4228268345044997872 : True := trivial
theorem PySem.W.Fast.tw2907254488423047176 : True := trivial
theorem PySem.W.Fast.tw1145076104523193502 : True := trivial
theorem PySem.W.Fast.tw9023149038461178525 : True := trivial
theorem PySem.W.Fast.tw139609969197905479 : True := trivial
theorem PySem.W.Fast.tw4244071037208754785 : True := trivial
theorem PySem.W.Fast.tw6317875154107239389 : True := trivial
theorem PySem.W.Fast.tw13077049910136598807 : True := trivial
theorem PySem.W.Fast.tw7308721962619097437 : True := trivial
theorem PySem.W.Fast.tw2219206679264137627 : True := trivial
theorem PySem.W.Fast.tw4963925220047939978 : True := trivial
theorem PySem.W.Fast.tw3228117748998256767 : True := trivial
theorem PySem.W.Fast.tw17422220806454813709 : True := trivial
theorem PySem.W.Fast.tw7720929020200298329 : True := trivial
theorem PySem.W.Fast.tw5364256733058875074 : True := trivial
theorem PySem.W.Fast.tw3002773144224815592 : True := trivial
theorem PySem.W.Fast.tw587557079753855642 : True := trivial
theorem PySem.W.Fast.tw13056581914683597491 : True := trivial
theorem PySem.W.Fast.tw8330147644236742650 : True := trivial
theorem PySem.W.Fast.tw17940088255702242714 : True := trivial
theorem PySem.W.Fast.tw81040250357800171 : True := trivial
theorem PySem.W.Fast.tw2155906427986747164 : True := trivial
theorem PySem.W.Fast.tw14264415531205051773 : True := trivial
theorem PySem.W.Fast.tw7072774410866664606 : True := trivial
theorem PySem.W.Fast.tw14103530418250418477 : True := trivial
theorem PySem.W.Fast.tw14035783865808104291 : True := trivial
theorem PySem.W.Fast.tw18402245911085645926 : True := trivial
theorem PySem.W.Fast.tw1674002090652628533 : True := trivial
theorem PySem.W.Fast.tw5773853073157763504 : True := trivial
theorem PySem.W.Fast.tw18384719802271260336 : True := trivial
theorem PySem.W.Fast.tw1221511283782088203 : True := trivial
theorem PySem.W.Fast.tw17184279756916831057 : True := trivial
theorem PySem.W.Fast.tw9468895289472232177 : True := trivial
theorem PySem.W.Fast.tw9855996379787877607 : True := trivial
theorem PySem.W.Fast.tw16379195488287542640 : True := trivial
theorem PySem.W.Fast.tw1843953291676021430 : True := trivial
theorem PySem.W.Fast.tw10248280272782596806 : True := trivial
theorem PySem.W.Fast.tw3402642500421031300 : True := trivial
theorem PySem.W.Fast.tw4716782489963490619 : True := trivial
theorem PySem.W.Fast.tw17189148103643852780 : True := trivial
theorem PySem.W.Fast.tw2544845963849650876 : True := trivial
theorem PySem.W.Fast.tw2373949925592605209 : True := trivial
theorem PySem.W.Fast.tw538613385721783709 : True := trivial
theorem PySem.W.Fast.tw9796869185419335432 : True := trivial
theorem PySem.W.Fast.tw6930576376189993956 : True := trivial
theorem PySem.W.Fast.tw13810334606918958919 : True := trivial
theorem PySem.W.Fast.tw740269950683053271 : True := trivial
theorem PySem.W.Fast.tw12881718555306955380 : True := trivial
open PySem PySem.W PyProof.Rows
set_option maxRecDepth 100000 in
set_option maxHeartbeats 0 in
theorem PySem.Challenge.cw_landsentered_k22_looks_within_lands_holds : PySem.Challenge.rw_landsentered_k22_looks_within_lands.Holds := by
 w_on; o_law; k_head; (case hw => w_witness2)
 k_fill
 refine My.walk (l := PySem.Challenge.rw_landsentered_k22_looks_within_lands) rfl rfl (fun w h Y => PySem.W.kIn_of Y) ?F
 case F =>
  intro w mg fa h KX G hmg
  refine' My.all_mk KX G hmg ?a0 ?l0 ?c0 ?k0 ?a1 ?l1 ?c1 ?k1 ?a2 ?l2 ?c2 ?k2 ?a3 ?l3 ?c3 ?k3 ?a4 ?l4 ?c4 ?k4 ?a5 ?l5 ?c5 ?k5 ?a6 ?l6 ?c6 ?k6 ?a7 ?l7 ?c7 ?k7 ?a8 ?l8 ?c8 ?k8 ?a9 ?l9 ?c9 ?k9 ?a10 ?l10 ?c10 ?k10 ?a11 ?l11 ?c11 ?k11 ?a12 ?l12 ?c12 ?k12 ?a13 ?l13 ?c13 ?k13 ?a14 ?l14 ?c14 ?k14 ?a15 ?l15 ?c15 ?k15 ?a16 ?l16 ?c16 ?k16 ?a17 ?l17 ?c17 ?k17 ?a18 ?l18 ?c18 ?k18 ?a19 ?l19 ?c19 ?k19 ?a20 ?l20 ?c20 ?k20 ?a21 ?l21 ?c21 ?k21 ?a22 ?l22 ?c22 ?k22 ?a23 ?l23 ?c23 ?k23 ?a24 ?l24 ?c24 ?k24 ?a25 ?l25 ?c25 ?k25 ?a26 ?l26 ?c26 ?k26 ?a27 ?l27 ?c27 ?k27 ?a28 ?l28 ?c28 ?k28 ?a29 ?l29 ?c29 ?k29 ?a30 ?l30 ?c30 ?k30 ?a31 ?l31 ?c31 ?k31 ?z0 ?z1 ?z2 ?z3 ?z4 ?z5 ?z6 ?z7 ?z8 ?z9 ?z10 ?z11 ?z12 ?z13 ?z14 ?z15 ?z16
  (case a0 => k_is)
  (case l0 => k_is)
  (case c0 => k_is)
  (case k0 => k_is)
  (case a1 => k_is)
  (case l1 => k_is)
  (case c1 => k_is)
  (case k1 => k_is)
  (case a2 => k_is)
  (case l2 => k_is)
  (case c2 => k_is)
  (case k2 => k_is)
  (case a3 => k_is)
  (case l3 => k_is)
  (case c3 => k_is)
  (case k3 => k_is)
  (case a4 => k_is)
  (case l4 => k_is)
  (case c4 => k_is)
  (case k4 => k_is)
  (case a5 => k_is)
  (case l5 => k_is)
  (case c5 => k_is)
  (case k5 => k_is)
  (case a6 => k_is)
  (case l6 => k_is)
  (case c6 => k_is)
  (case k6 => k_is)
  (case a7 => k_is)
  (case l7 => k_is)
  (case c7 => k_is)
  (case k7 => k_is)
  (case a8 => k_is)
  (case l8 => k_is)
  (case c8 => k_is)
  (case k8 => k_is)
  (case a9 => k_is)
  (case l9 => k_is)
  (case c9 => k_is)
  (case k9 => k_is)
  (case a10 => k_is)
  (case l10 => k_is)
  (case c10 => k_is)
  (case k10 => k_is)
  (case a11 => k_is)
  (case l11 => k_is)
  (case c11 => k_is)
  (case k11 => k_is)
  (case a12 => k_is)
  (case l12 => k_is)
  (case c12 => k_is)
  (case k12 => k_is)
  (case a13 => k_is)
  (case l13 => k_is)
  (case c13 => k_is)
  (case k13 => k_is)
  (case a14 => k_is)
  (case l14 => k_is)
  (case c14 => k_is)
  (case k14 => k_is)
  (case a15 => k_is)
  (case l15 => k_is)
  (case c15 => k_is)
  (case k15 => k_is)
  (case a16 => k_is)
  (case l16 => k_is)
  (case c16 => k_is)
  (case k16 => k_is)
  (case a17 => k_is)
  (case l17 => k_is)
  (case c17 => k_is)
  (case k17 => k_is)
  (case a18 => k_is)
  (case l18 => k_is)
  (case c18 => k_is)
  (case k18 => k_is)
  (case a19 => k_is)
  (case l19 => k_is)
  (case c19 => k_is)
  (case k19 => k_is)
  (case a20 => k_is)
  (case l20 => k_is)
  (case c20 => k_is)
  (case k20 => k_is)
  (case a21 => k_is)
  (case l21 => k_is)
  (case c21 => k_is)
  (case k21 => k_is)
  (case a22 => k_is)
  (case l22 => k_is)
  (case c22 => k_is)
  (case k22 => k_is)
  (case a23 => k_is)
  (case l23 => k_is)
  (case c23 => k_is)
  (case k23 => k_is)
  (case a24 => k_is)
  (case l24 => k_is)
  (case c24 => k_is)
  (case k24 => k_is)
  (case a25 => k_is)
  (case l25 => k_is)
  (case c25 => k_is)
  (case k25 => k_is)
  (case a26 => k_is)
  (case l26 => k_is)
  (case c26 => k_is)
  (case k26 => k_is)
  (case a27 => k_is)
  (case l27 => k_is)
  (case c27 => k_is)
  (case k27 => k_is)
  (case a28 => k_is)
  (case l28 => k_is)
  (case c28 => k_is)
  (case k28 => k_is)
  (case a29 => k_is)
  (case l29 => k_is)
  (case c29 => k_is)
  (case k29 => k_is)
  (case a30 => k_is)
  (case l30 => k_is)
  (case c30 => k_is)
  (case k30 => k_is)
  (case a31 => k_is)
  (case l31 => k_is)
  (case c31 => k_is)
  (case k31 => k_is)
  (case z0 => k_is)
  (case z1 => k_is)
  (case z2 => k_is)
  (case z3 => k_is)
  (case z4 => k_is)
  (case z5 => k_is)
  (case z6 => k_is)
  (case z7 => k_is)
  (case z8 => k_is)
  (case z9 => k_is)
  (case z10 => k_is)
  (case z11 => k_is)
  (case z12 => k_is)
  (case z13 => k_is)
  (case z14 => k_is)
  (case z15 => k_is)
  (case z16 => k_is)
