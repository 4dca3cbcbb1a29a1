import PyProof.Rows.All
import Wide.All
import OpenK.AllK
import Wide.FinOn
import Lean
import PyProof.EqAt
import PyProof.EqKinds
import PyProof.TupleCall
import PyProof.ReprRoads
import PyProof.EqLayable
import PyProof.NeData
import PyProof.Rows.TupDisplay
import PySem.Challenge.RW_landsentered_k54_whole_papers_go_on
set_option Elab.async false
set_option linter.all false
set_option maxRecDepth 100000
set_option compiler.extract_closed false
set_option bootstrap.genMatcherCode false
theorem zz0 (h : True := by first | exact .inl rfl | exact .inr rfl | assumption) : True := h
theorem zz1 (h : True := by decide) : True := h
theorem zz2 (h : True := by intro _; rfl) : True := h
theorem zz3 (h : True := by rfl) : True := h
theorem zz4 (h : True := by with_unfolding_all rfl) : True := h
theorem zz5 (h : True := by first | exact Or.inl rfl | exact Or.inr (Or.inl rfl) | exact Or.inr (Or.inr rfl)) : True := h
theorem zz6 (h : True := by first | exact Rc _ | rfl) : True := h
theorem zz7 (h : True := by intro _ _; rfl) : True := h
theorem zz8 (h : True := by first | exact Or.inl rfl | exact Or.inr rfl) : True := h
theorem zz9 (h : True := by intro _ _; with_unfolding_all rfl) : True := h
theorem zz10 (h : True := by decide +kernel) : True := h
namespace L2
open PySem PySem.Spec PyProof.Rows
abbrev Key := Sum Int Str
noncomputable def Zaz : Key → Value → Bool
 | .inl k, v => Value.isInt k v
 | .inr x, v => Value.isStrOf x v
noncomputable def Zf5 (w : World) : Key → Int
 | .inl k => hashInt k
 | .inr x => hashStr w x
theorem ZY : ∀ {k : Key} {v : Value}, Zaz k v = true → (∃ i t, k = Sum.inl i ∧ v = Value.int i t) ∨ (∃ x t, k = Sum.inr x ∧ v = Value.str x t)
 | .inl i, v, h => by
  obtain ⟨t, e⟩ := Value.isInt_shape (k := i) (v := v) h
  exact .inl ⟨i, t, rfl, e⟩
 | .inr x, v, h => by
  obtain ⟨t, e⟩ := Value.isStrOf_shape (x := x) (v := v) h
  exact .inr ⟨x, t, rfl, e⟩
theorem ZaQ (a b : Int) : decide ((Sum.inl a : Key) = Sum.inl b) = (a == b) := by
 by_cases e : a = b
 ·subst e; simp
 ·have h : ¬ (Sum.inl a : Key) = Sum.inl b := fun q => e (Sum.inl.inj q)
  rw [decide_eq_false h]
  exact (beq_eq_false_iff_ne.mpr e).symm
theorem Zbf (a b : Str) : decide ((Sum.inr a : Key) = Sum.inr b) = decide (a = b) := by
 by_cases e : a = b
 ·subst e; simp
 ·have h : ¬ (Sum.inr a : Key) = Sum.inr b := fun q => e (Sum.inr.inj q)
  rw [decide_eq_false h, decide_eq_false e]
theorem ZbK (a : Int) (b : Str) : decide ((Sum.inl a : Key) = Sum.inr b) = false := decide_eq_false (fun q => nomatch q)
theorem Zbu (a : Str) (b : Int) : decide ((Sum.inr a : Key) = Sum.inl b) = false := decide_eq_false (fun q => nomatch q)
noncomputable def XR (prog : Program) (w : World) : PySem.KeyKind prog w Key where
 is := Zaz
 hash := Zf5 w
 inj := fun v a b ha hb => by
  rcases ZY ha with ⟨i, t, rfl, rfl⟩ | ⟨x, t, rfl, rfl⟩
  ·rcases ZY hb with ⟨j, u, rfl, e⟩ | ⟨y, u, rfl, e⟩
   ·injection e with e1 _; rw [e1]
   ·exact nomatch e
  ·rcases ZY hb with ⟨j, u, rfl, e⟩ | ⟨y, u, rfl, e⟩
   ·exact nomatch e
   ·injection e with e1 _; rw [e1]
 byValue := fun k v h => by
  rcases ZY h with ⟨i, t, rfl, rfl⟩ | ⟨x, t, rfl, rfl⟩ <;> rfl
 pyHash := fun hv h => by
  rcases ZY hv with ⟨i, t, rfl, rfl⟩ | ⟨x, t, rfl, rfl⟩
  ·exact wpAny_pyHash_int h
  ·exact wpAny_pyHash_str h
 eqBool := fun hu hv h => by
  rcases ZY hu with ⟨i, t, rfl, rfl⟩ | ⟨x, t, rfl, rfl⟩
  ·rcases ZY hv with ⟨j, u, rfl, rfl⟩ | ⟨y, u, rfl, rfl⟩
   ·rw [ZaQ] at h; exact wpAny_eqBool_int h
   ·rw [ZbK] at h; exact SeqAt.EqAt.int_str i t y u _ _ _ _ h
  ·rcases ZY hv with ⟨j, u, rfl, rfl⟩ | ⟨y, u, rfl, rfl⟩
   ·rw [Zbu] at h; exact SeqAt.EqAt.str_int x t j u _ _ _ _ h
   ·rw [Zbf] at h; exact wpAny_eqBool_str h
 «strs» := fun k x t v h => by
  rcases ZY h with ⟨i, u, rfl, e⟩ | ⟨y, u, rfl, e⟩
  ·exact nomatch e
  ·injection e with e1 _
   subst e1
   cases v <;> rfl
end L2
namespace L2
open PySem PySem.Spec PyProof.Rows
inductive V where
 | non | bl (b : Bool) | int (i : Int) | str (x : Str) | byt (b : Array UInt8) | flt (b : UInt64) | ref (a : Addr) | ty (n : String)
 deriving DecidableEq
def RelV : V → Value → Prop
 | .non, u => u = Value.none
 | .bl b, u => u = Value.bool b
 | .int i, u => ∃ t, u = Value.int i t
 | .str x, u => ∃ t, u = Value.str x t
 | .byt b, u => ∃ t, u = Value.bytes b t
 | .flt b, u => ∃ t, u = Value.float b t
 | .ref a, u => u = Value.ref a
 | .ty n, u => u = Value.type n
abbrev Vals : List V → List Value → Prop := Paired RelV
theorem Vals.length {xs : List V} {us : List Value} (r : Vals xs us) : xs.length = us.length := Paired.length r
theorem Vals.get : ∀ {xs : List V} {us : List Value} {i : Nat} {x : V}, Vals xs us → xs[i]? = some x → ∃ u, us[i]? = some u ∧ RelV x u
 | _, _, _, _, .nil, e => by simp at e
 | _, _, 0, _, .cons r _, e => by simp at e; subst e; exact ⟨_, rfl, r⟩
 | _, _, i + 1, x, .cons _ t, e => by
  obtain ⟨u, h1, h2⟩ := Vals.get (i := i) (x := x) t (by simpa using e)
  exact ⟨u, by simpa using h1, h2⟩
theorem Vals.set {x : V} {u : Value} (r : RelV x u) : ∀ {xs : List V} {us : List Value} (i : Nat), Vals xs us → Vals (xs.set i x) (us.set i u)
 | _, _, _, .nil => .nil
 | _, _, 0, .cons _ t => .cons r t
 | _, _, i + 1, .cons q t => .cons q (Vals.set r i t)
theorem Vals.append : ∀ {xs ys : List V} {us ws : List Value}, Vals xs us → Vals ys ws → Vals (xs ++ ys) (us ++ ws)
 | _, _, _, _, .nil, s => s
 | _, _, _, _, .cons r t, s => .cons r (Vals.append t s)
theorem Vals.take : ∀ {xs : List V} {us : List Value} (n : Nat), Vals xs us → Vals (xs.take n) (us.take n)
 | _, _, 0, _ => .nil
 | _, _, _ + 1, .nil => .nil
 | _, _, n + 1, .cons r t => .cons r (Vals.take n t)
theorem Vals.drop : ∀ {xs : List V} {us : List Value} (n : Nat), Vals xs us → Vals (xs.drop n) (us.drop n)
 | _, _, 0, r => r
 | _, _, _ + 1, .nil => .nil
 | _, _, n + 1, .cons _ t => Vals.drop n t
theorem Vals.none_of : ∀ {xs : List V} {us : List Value} {i : Nat}, Vals xs us → xs[i]? = none → us[i]? = none := fun {xs us i} r e => by
 have h1 := r.length
 have h2 : xs.length ≤ i := List.getElem?_eq_none_iff.mp e
 exact List.getElem?_eq_none_iff.mpr (by omega)
def Zcn : Option V → Option Value → Prop
 | some v, some u => RelV v u
 | none, none => True
 | _, _ => False
def KV {κ : Type} : List (κ × V) → List (κ × Value) → Prop := Paired fun (p : κ × V) (q : κ × Value) => p.1 = q.1 ∧ RelV p.2 q.2
noncomputable def kV : Key → V
 | .inl i => .int i
 | .inr x => .str x
inductive HO where
  | lst (xs : List V)
  | tup (xs : List V)
  | dK (kvs : List (Key × V)) | dT (kvs : List (List Key × V))
  | set (S : Int → Bool) (n : Nat)
  | ins (C dx : Addr) (fs : List (Str × V))
  | own (x : Addr)
  | xd (fs : List (Str × V))
  | met (f x : Addr)
  | rng (lo hi : Int)
  | frz (o : Obj) (u : HO)
  | tbl (ps : Array Value)
  | ext (φ : Heap → Prop)
abbrev Hp := Addr → Option HO
noncomputable def upd (H : Hp) (a : Addr) (o : HO) : Hp := fun b => if b = a then some o else H b
theorem JK {H : Hp} {a : Addr} {o : HO} : upd H a o a = some o := by unfold upd; rw [if_pos rfl]
theorem ZL {H : Hp} {a b : Addr} {o : HO} (h : b ≠ a) : upd H a o b = H b := by unfold upd; rw [if_neg h]
theorem ZC {H : Hp} {a b : Addr} {o : HO} (h : H a = some o) (h' : H b = none) : a ≠ b := by
 intro e; subst e; rw [h] at h'; cases h'
section
variable (P : Program) (w : World)
def J8 (H : Hp) (h : Heap) (a : Addr) : HO → Prop
 | .lst xs => xs.length ≤ sizeLine ∧ ∃ (its : List Value) (n : Nat), Vals xs its ∧ h.get? a = some { cls := .type "list", data := .seq its.toArray n }
 | .tup xs => xs.length ≤ sizeLine ∧ ∃ its : List Value, Vals xs its ∧ IsTup h a its.toArray
 | .dK kvs => kvs.length ≤ sizeLine ∧ (a == sysModules) = false ∧ ∃ vs, KV kvs vs ∧ h.DictOf (XR P w) a vs
 | .dT kvs => kvs.length ≤ sizeLine ∧ (a == sysModules) = false ∧ ∃ xs : List (List Key × Addr × Value),
   Paired (fun (p : List Key × V) (q : List Key × Addr × Value) => p.1 = q.1 ∧ H q.2.1 = some (.tup (p.1.map kV)) ∧ RelV p.2 q.2.2) kvs xs ∧
   ∃ o es ep, h.get? a = some o ∧ o.ExactDict ∧ o.data = .dict es ep ∧ es.toList = xs.map (entryOfKey (tupleKind (XR P w))) ∧ (xs.map (·.1)).Nodup
 | .set S n => h.SetOf (intKind P w) a S n
 | .ins C dx fs => H dx = some (.own a) ∧ fs.length ≤ 1000 ∧ dx ≠ a ∧ h.get? a = some (PySem.W.instObj C dx) ∧
   ∃ mA, h.Ns1 dx mA ∧ (∀ f, Zcn (fs.lookup f) (mA f)) ∧ PySem.Within mA (fs.map (·.1))
 | .own _ => ∃ o, h.get? a = some o
 | .xd fs => ∃ mA, h.Ns1 a mA ∧ ∀ f, Zcn (fs.lookup f) (mA f)
 | .rng lo hi => ∃ t u v, h.get? a = some { cls := .type "range", data := .fields #[.int lo t, .int hi u, .int 1 v] }
 | .frz o u => h.get? a = some o ∧ J8 H h a u
 | .tbl ps => h.get? a = some { cls := .none, data := .fields ps }
 | .met f x => h.get? a = some (PySem.W.methodObj (.ref f) (.ref x))
 | .ext φ => φ h ∧ (∃ o, h.get? a = some o) ∧ ∀ h1 h2 : Heap, φ h1 → (∀ o, h1.get? a = some o → h2.get? a = some o) → φ h2
def HOk (H : Hp) (h : Heap) : Prop := ∀ a o, H a = some o → J8 P w H h a o
end
section
variable {P : Program} {w : World} {H H' : Hp} {h h' : Heap} {a : Addr} {o : HO}
theorem J8.lt (x : J8 P w H h a o) : a < h.objs.size := by
 cases o with
 | lst xs => obtain ⟨_, _, _, _, e⟩ := x; exact Heap.lt_size e
 | tup xs => obtain ⟨_, _, _, p⟩ := x; exact p.lt
 | dK kvs => obtain ⟨_, _, _, _, o, _, _, e, _⟩ := x; exact Heap.lt_size e
 | dT kvs => obtain ⟨_, _, _, _, o, _, _, e, _⟩ := x; exact Heap.lt_size e
 | set S n => obtain ⟨o, _, _, _, e, _⟩ := x; exact Heap.lt_size e
 | ins C dx fs => obtain ⟨_, _, _, e, _⟩ := x; exact Heap.lt_size e
 | own y => obtain ⟨_, e⟩ := x; exact Heap.lt_size e
 | xd fs => obtain ⟨_, ⟨_, _, _, e, _⟩, _⟩ := x; exact Heap.lt_size e
 | rng lo hi => obtain ⟨_, _, _, e⟩ := x; exact Heap.lt_size e
 | frz ob u => obtain ⟨e, _⟩ := x; exact Heap.lt_size e
 | tbl ps => exact Heap.lt_size (show h.get? a = some _ from x)
 | met f y => exact Heap.lt_size (show h.get? a = some _ from x)
 | ext φ => obtain ⟨_, ⟨_, e⟩, _⟩ := x; exact Heap.lt_size e
theorem Paired.Zet {α β : Type} {F G : α → β → Prop} : ∀ {l₁ : List α} {l₂ : List β}, Paired F l₁ l₂ → (∀ a b, F a b → G a b) → Paired G l₁ l₂
 | _, _, .nil, _ => .nil
 | _, _, .cons r t, f => .cons (f _ _ r) (Paired.Zet t f)
theorem J8.Rg (x : J8 P w H h a o) (k : ∀ b u, (b = a ∨ H b = some (.own a)) → h.get? b = some u → h'.get? b = some u)
  (ho : ∀ b, H b = some (.own a) → H' b = some (.own a)) (ht : ∀ b xs, H b = some (.tup xs) → H' b = some (.tup xs)) : J8 P w H' h' a o := by
 induction o with
 | lst xs => obtain ⟨z, its, n, r, e⟩ := x; exact ⟨z, its, n, r, k _ _ (.inl rfl) e⟩
 | tup xs => obtain ⟨z, its, r, ob, e, c⟩ := x; exact ⟨z, its, r, ob, k _ _ (.inl rfl) e, c⟩
 | dK kvs => obtain ⟨z, y, vs, r, ob, es, ep, e, c⟩ := x; exact ⟨z, y, vs, r, ob, es, ep, k _ _ (.inl rfl) e, c⟩
 | dT kvs =>
  obtain ⟨z, y, xs, r, ob, es, ep, e, c⟩ := x
  exact ⟨z, y, xs, Paired.Zet r fun p q z => ⟨z.1, ht _ _ z.2.1, z.2.2⟩, ob, es, ep, k _ _ (.inl rfl) e, c⟩
 | set S n => obtain ⟨ob, es, ep, t, e, c⟩ := x; exact ⟨ob, es, ep, t, k _ _ (.inl rfl) e, c⟩
 | ins C dx fs =>
  obtain ⟨d, z, ne, e, mA, ⟨od, es, ep, e2, c⟩, r⟩ := x
  exact ⟨ho _ d, z, ne, k _ _ (.inl rfl) e, mA, ⟨od, es, ep, k _ _ (.inr d) e2, c⟩, r⟩
 | own y => obtain ⟨ob, e⟩ := x; exact ⟨ob, k _ _ (.inl rfl) e⟩
 | xd fs => obtain ⟨mA, ⟨od, es, ep, e, c⟩, r⟩ := x; exact ⟨mA, ⟨od, es, ep, k _ _ (.inl rfl) e, c⟩, r⟩
 | rng lo hi => obtain ⟨t, u, v, e⟩ := x; exact ⟨t, u, v, k _ _ (.inl rfl) e⟩
 | frz ob u ih => obtain ⟨e, q⟩ := x; exact ⟨k _ _ (.inl rfl) e, ih q⟩
 | tbl ps =>
  have e : h.get? a = some { cls := .none, data := .fields ps } := x
  show h'.get? a = some { cls := .none, data := .fields ps }
  exact k a _ (.inl rfl) e
 | met f y =>
  have e : h.get? a = some (PySem.W.methodObj (.ref f) (.ref y)) := x
  show h'.get? a = some (PySem.W.methodObj (.ref f) (.ref y))
  exact k a _ (.inl rfl) e
 | ext φ => obtain ⟨p, ⟨o, e⟩, st⟩ := x; exact ⟨st _ _ p fun o q => k _ _ (.inl rfl) q, ⟨o, k _ _ (.inl rfl) e⟩, st⟩
theorem HOk.lt (x : HOk P w H h) (e : H a = some o) : a < h.objs.size := (x a o e).lt
theorem HOk.fresh (x : HOk P w H h) (e : h.objs.size ≤ a) : H a = none := by
 cases q : H a with
 | none => rfl
 | some u => exact absurd (Nat.lt_of_lt_of_le (x.lt q) e) (Nat.lt_irrefl _)
theorem HOk.kept (x : HOk P w H h) (k : ∀ b u, h.get? b = some u → h'.get? b = some u) : HOk P w H h' := fun a o e =>
 (x a o e).Rg (fun b u _ q => k b u q) (fun _ q => q) fun _ _ q => q
theorem HOk.laid (x : HOk P w H h) (k : ∀ b u, h.get? b = some u → h'.get? b = some u) (hp : h.objs.size ≤ a) (new : J8 P w (upd H a o) h' a o) : HOk P w (upd H a o) h' := fun b u e => by
 have hn := x.fresh hp
 by_cases hb : b = a
 ·subst hb; rw [JK] at e; cases e; exact new
 ·rw [ZL hb] at e
  exact (x b u e).Rg (fun c v _ q => k c v q) (fun c q => by rw [ZL (ZC q hn)]; exact q) fun c xs q => by rw [ZL (ZC q hn)]; exact q
end
def Rd (H : Hp) (a : Addr) (u : HO) : Prop := H a = some u ∨ ∃ o, H a = some (.frz o u)
theorem Rd.of {H : Hp} {a : Addr} {u : HO} (h : H a = some u) : Rd H a u := .inl h
theorem Rd.ok {P : Program} {w : World} {H : Hp} {h : Heap} {a : Addr} {u : HO} (r : Rd H a u) (x : HOk P w H h) : J8 P w H h a u := by
 rcases r with r | ⟨o, r⟩
 ·exact x a u r
 ·obtain ⟨_, q⟩ := x a _ r
  exact q
def Mut : Option HO → Prop
 | some (.lst _) => True
 | some (.dK _) => True
 | some (.dT _) => True
 | some (.set _ _) => True
 | some (.ins _ _ _) => True
 | some (.ext _) => True
 | _ => False
section
variable {P : Program} {w : World} {H : Hp} {h h' : Heap} {x e : Addr} {o' : HO}
theorem HOk.write (ok : HOk P w H h) (mu : Mut (H x)) (he : e = x ∨ H e = some (.own x)) (k : ∀ b u, b ≠ e → h.get? b = some u → h'.get? b = some u) (heo : ∃ u, h'.get? e = some u)
  (new : J8 P w (upd H x o') h' x o') : HOk P w (upd H x o') h' := fun b u q => by
 have nown : ∀ c y, H c = some (.own y) → c ≠ x := fun c y r z => by subst z; rw [r] at mu; exact mu
 have ntup : ∀ c xs, H c = some (.tup xs) → c ≠ x := fun c xs r z => by subst z; rw [r] at mu; exact mu
 by_cases hb : b = x
 ·subst hb; rw [JK] at q; cases q; exact new
 ·rw [ZL hb] at q
  by_cases hbe : b = e
  ·have q' : H b = some (.own x) := by
    rcases he with z | z
    ·exact absurd (hbe.trans z) hb
    ·rw [hbe]; exact z
   rw [q] at q'; cases q'
   obtain ⟨v, hv⟩ := heo
   exact ⟨v, by rw [hbe]; exact hv⟩
  ·refine (ok b u q).Rg (fun c v hc r => k c v ?_ r) (fun c r => by rw [ZL (nown c b r)]; exact r) fun c xs r => by rw [ZL (ntup c xs r)]; exact r
   rcases hc with rfl | hc
   ·exact hbe
   ·rintro rfl
    rcases he with z | z
    ·exact nown c b hc z
    ·rw [hc] at z; cases z; exact hb rfl
end
structure Un (fs ex : List Addr) (H H' : Hp) (h h' : Heap) : Prop where
 keep : ∀ b o, h.get? b = some o → H b = none → b ∉ fs → b ∉ ex → h'.get? b = some o
 slot : ∀ b o, h.get? b = some o → H b = none → b ∈ fs → b ∉ ex → ∃ sl, h'.get? b = some { o with slots := sl }
 free : ∀ b o, h.get? b = some o → H b = none → b ∉ ex → H' b = none
 there : ∀ b o, h.get? b = some o → b ∉ ex → ∃ o', h'.get? b = some o'
 tups : ∀ b xs, H b = some (.tup xs) → H' b = some (.tup xs)
 frzs : ∀ b o u, H b = some (.frz o u) → H' b = some (.frz o u)
 tbls : ∀ b ps, H b = some (.tbl ps) → ∃ more, H' b = some (.tbl (ps ++ more))
section
variable {fs fs' ex ex' : List Addr} {H H1 H2 : Hp} {h h1 h2 h' : Heap} {a x e : Addr} {o : HO}
theorem Un.any (u : Un fs ex H H1 h h1) {b : Addr} {ob : Obj} (q : h.get? b = some ob) (n : H b = none) (hx : b ∉ ex) : ∃ sl, h1.get? b = some { ob with slots := sl } := by
 by_cases hb : b ∈ fs
 ·exact u.slot b ob q n hb hx
 ·exact ⟨ob.slots, u.keep b ob q n hb hx⟩
theorem Un.trans (a : Un fs ex H H1 h h1) (b : Un fs ex H1 H2 h1 h2) : Un fs ex H H2 h h2 where
 keep := fun c ob q n hc hx => b.keep c ob (a.keep c ob q n hc hx) (a.free c ob q n hx) hc hx
 slot := fun c ob q n hc hx => by
  obtain ⟨sl, e1⟩ := a.slot c ob q n hc hx
  obtain ⟨sl', e2⟩ := b.slot c _ e1 (a.free c ob q n hx) hc hx
  exact ⟨sl', e2⟩
 free := fun c ob q n hx => by
  obtain ⟨o', e1⟩ := a.there c ob q hx
  exact b.free c o' e1 (a.free c ob q n hx) hx
 there := fun c ob q hx => by
  obtain ⟨o', e1⟩ := a.there c ob q hx
  exact b.there c o' e1 hx
 tups := fun c xs q => b.tups c xs (a.tups c xs q)
 frzs := fun c ob xs q => b.frzs c ob xs (a.frzs c ob xs q)
 tbls := fun c ps q => by
  obtain ⟨m1, e1⟩ := a.tbls c ps q
  obtain ⟨m2, e2⟩ := b.tbls c _ e1
  exact ⟨m1 ++ m2, by rw [e2, Array.append_assoc]⟩
theorem Un.kept (k : ∀ b u, h.get? b = some u → h'.get? b = some u) : Un fs ex H H h h' :=
 ⟨fun b ob q _ _ _ => k b ob q, fun b ob q _ _ _ => ⟨ob.slots, k b ob q⟩, fun _ _ _ n _ => n, fun b ob q _ => ⟨ob, k b ob q⟩, fun _ _ q => q, fun _ _ _ q => q, fun _ ps q => ⟨#[], by rw [q]; simp⟩⟩
theorem Un.refl : Un fs ex H H h h := Un.kept fun _ _ q => q
theorem Un.laid (k : ∀ b u, h.get? b = some u → h'.get? b = some u) (hp : h.objs.size ≤ a) (hn : H a = none) : Un fs ex H (upd H a o) h h' where
 keep := fun b u q _ _ _ => k b u q
 slot := fun b u q _ _ _ => ⟨u.slots, k b u q⟩
 free := fun b u q n _ => by rw [ZL (Nat.ne_of_lt (Nat.lt_of_lt_of_le (Heap.lt_size q) hp))]; exact n
 there := fun b u q _ => ⟨u, k b u q⟩
 tups := fun b xs q => by rw [ZL (ZC q hn)]; exact q
 frzs := fun b u xs q => by rw [ZL (ZC q hn)]; exact q
 tbls := fun b ps q => ⟨#[], by rw [ZL (ZC q hn), q]; simp⟩
theorem Un.write (mu : Mut (H x)) (he : e = x ∨ H e = some (.own x)) (k : ∀ b u, b ≠ e → h.get? b = some u → h'.get? b = some u) (heo : ∃ u, h'.get? e = some u) : Un fs ex H (upd H x o) h h' := by
 have hx : ∀ b, H b = none → b ≠ x := fun b n z => by subst z; rw [n] at mu; exact mu
 have hb : ∀ b, H b = none → b ≠ e := fun b n z => by
  subst z
  rcases he with r | r
  ·exact hx b n r
  ·rw [n] at r; cases r
 have hm : ∀ b u, H b = some u → ¬ Mut (some u) → b ≠ x := fun b u q nm z => by subst z; rw [q] at mu; exact nm mu
 refine ⟨fun b u q n _ _ => k b u (hb b n) q, fun b u q n _ _ => ⟨u.slots, k b u (hb b n) q⟩, fun b u q n _ => by rw [ZL (hx b n)]; exact n, fun b u q _ => ?_,
  fun b xs q => by rw [ZL (hm b _ q fun z => z)]; exact q, fun b u xs q => by rw [ZL (hm b _ q fun z => z)]; exact q, fun b ps q => ⟨#[], by rw [ZL (hm b _ q fun z => z), q]; simp⟩⟩
 by_cases hbe : b = e
 ·subst hbe; exact heo
 ·exact ⟨u, k b u hbe q⟩
end
noncomputable def trk (h : Heap) (H : Hp) : List Addr := (List.range h.objs.size).filter fun a => (H a).isSome
noncomputable def MF (h : Heap) (H : Hp) : Heap := PySem.W.hideAll h (trk h H)
theorem Lv (h : Heap) (H : Hp) : (MF h H).objs.size = h.objs.size := PySem.W.hideAll_size _ _
theorem Mi {h : Heap} {H : Hp} {b : Addr} {o : Obj} (e : h.get? b = some o) (n : H b = none) : (MF h H).get? b = some o :=
 PySem.W.hideAll_get _ e fun hm => by
  have q : (H b).isSome = true := (List.mem_filter.mp hm).2
  rw [n] at q; simp at q
theorem TN {h : Heap} {H : Hp} {b : Addr} {o : Obj} (e : (MF h H).get? b = some o) : h.get? b = some o ∧ H b = none := by
 have e' : h.get? b = some o := PySem.W.of_hideAll (trk h H) e
 refine ⟨e', ?_⟩
 cases q : H b with
 | none => rfl
 | some x =>
  have hm : b ∈ trk h H := List.mem_filter.mpr ⟨List.mem_range.mpr (Heap.lt_size e'), by simp [q]⟩
  have z : (MF h H).get? b = none := PySem.W.hideAll_none (trk h H) hm
  rw [z] at e; cases e
noncomputable def Tt (g h : Heap) (L : Addr) : List (Addr × Obj) := (List.range h.objs.size).filterMap fun a => if a = L ∨ (g.get? a).isSome = true then none else (h.get? a).map fun o => (a, o)
noncomputable def rest (g h : Heap) (L d : Addr) : List (Addr × Obj) := (Tt g h L).filter fun p => decide (p.1 ≠ d)
end L2
namespace L2
open PySem PySem.Spec PyProof.Rows
structure Mod (K : PySem.W.Frag) (mg : Str → Option Value) (base : Heap) : Prop where
 kin : K.In base
 glob : base.Ns mainGlobals mg
 blt : ∃ mb, base.Ns builtinsNs mb ∧ ∀ x : Str, x ≠ "__name__" → mb x = bootBuiltins x
 nolimit : base.NoLimit
structure Cx where
 prog : Program
 w : World
 K : PySem.W.Frag
 mg : Str → Option Value
 base : Heap
 A : Around
 N : List Str
 s₀ : Shared
 H₀ : Hp
 env : Env
 outer : List Env
 stack : List Env
 ex : List Addr
 fn : Str → Bool
 calm : Bool
 pn : List (Addr × Obj)
 xe : Value → Shared → Prop
noncomputable def frs (l : List Env) : List Addr := l.filterMap (·.frame)
noncomputable abbrev Cx.fs (X : Cx) : List Addr := frs X.outer
def Vis (sc : Scope) (x : Str) : Prop := sc.names.lookup x = some .local ∨ sc.names.lookup x = some .cell ∨ sc.names.lookup x = some .free
def Loc (sc : Scope) (x : Str) : Prop := sc.names.lookup x = some .local ∨ sc.names.lookup x = some .cell
def Look (env : Env) (h : Heap) (m : Str → Option Value) (x : Str) (u : Value) : Prop :=
 (env.kindOf x = some .local ∧ m x = some u) ∨ ((env.kindOf x = some .cell ∨ env.kindOf x = some .free) ∧ ∃ c, env.cells.lookup x = some c ∧ h.IsCell c (some u))
structure Cx.Ok (X : Cx) : Prop where
 mod : Mod X.K X.mg X.base
 kind : X.env.scope.kind = .function
 glob : X.env.globals = mainGlobals
 blt : X.env.builtins = builtinsNs
 above : X.s₀.heap.objs.size ≤ X.env.locals
 inj : ∀ x y c, X.env.cells.lookup x = some c → X.env.cells.lookup y = some c → x = y
 has : ∀ x, (X.env.kindOf x = some .cell ∨ X.env.kindOf x = some .free) → ∃ c, X.env.cells.lookup x = some c
 cab : ∀ x c, X.fn x = true → X.env.cells.lookup x = some c → X.s₀.heap.objs.size ≤ c
 hd : X.calm = true → X.A.handled = none
 frames : X.A.frames = some X.stack
 stk : X.stack = X.outer ∨ (X.stack = X.env :: X.outer ∧ X.env.frame = some X.env.locals)
 exf : ∀ b ∈ X.ex, b ≠ X.env.locals ∧ ∀ x c, X.env.cells.lookup x = some c → c ≠ b
 bs : ∀ b o, X.base.get? b = some o → X.s₀.heap.get? b = some o ∧ X.H₀ b = none
 bsz : X.base.objs.size ≤ X.s₀.heap.objs.size
 noex : ∀ b o, X.base.get? b = some o → b ∉ X.ex
 exfs : ∀ b ∈ X.ex, b ∉ X.fs
 Lx : X.s₀.heap.FunFrames X.base X.outer
 frf : ∀ b ∈ X.fs, X.H₀ b = none
structure Inv (X : Cx) (pins : List (Addr × Obj)) (σ : List (Option V)) (H : Hp) (s : Shared) : Prop where
 ok : X.Ok
 os : s.os = X.s₀.os
 bare : AllBare s.gens
 base : Un X.fs X.ex X.H₀ H X.s₀.heap s.heap
 loc : ∃ m, s.heap.Ns X.env.locals m ∧ ∀ (i : Nat) (x : Str) (v : V), X.N[i]? = some x → σ[i]? = some (some v) → Vis X.env.scope x → ∃ u, RelV v u ∧ Look X.env s.heap m x u
 cell : ∀ x c, X.env.cells.lookup x = some c → ∃ v, s.heap.IsCell c v
 free : H X.env.locals = none
 freeC : ∀ x c, X.env.cells.lookup x = some c → H c = none
 pin : ∀ p ∈ X.pn ++ pins, s.heap.get? p.1 = some p.2 ∧ H p.1 = none ∧ p.1 ≠ X.env.locals ∧ p.1 ∉ X.fs ∧ ∀ v, p.2.data ≠ .cell v
 hok : HOk X.prog X.w H s.heap
 len : σ.length = X.N.length
section
variable {X : Cx} {pins : List (Addr × Obj)} {σ : List (Option V)} {H H' : Hp} {s : Shared} {h' : Heap}
theorem Cx.Ok.ZfM (ok : X.Ok) {b : Addr} {o : Obj} (e : X.base.get? b = some o) : b ∉ X.fs := fun hb => by
 have := (ok.Lx.mem hb).1
 rw [e] at this; cases this
theorem Inv.bs (I : Inv X pins σ H s) : ∀ b o, X.base.get? b = some o → s.heap.get? b = some o ∧ H b = none := fun b o e =>
 ⟨I.base.keep b o (I.ok.bs b o e).1 (I.ok.bs b o e).2 (I.ok.ZfM e) (I.ok.noex b o e), I.base.free b o (I.ok.bs b o e).1 (I.ok.bs b o e).2 (I.ok.noex b o e)⟩
theorem Inv.bk (I : Inv X pins σ H s) : ∀ b o, X.base.get? b = some o → s.heap.get? b = some o := fun b o e => (I.bs b o e).1
theorem Inv.mod (I : Inv X pins σ H s) : Mod X.K X.mg X.base := I.ok.mod
theorem Inv.kIn (I : Inv X pins σ H s) : X.K.In s.heap := I.ok.mod.kin.keeps I.bk
theorem Inv.fr (I : Inv X pins σ H s) : ∃ m, Fr X.base X.env.locals s.heap m :=
 let ⟨m, hn, _⟩ := I.loc
 ⟨m, hn, I.bk, Nat.le_trans I.ok.bsz I.ok.above⟩
theorem Inv.lt (I : Inv X pins σ H s) : X.env.locals < s.heap.objs.size := let ⟨_, hn, _⟩ := I.loc; hn.lt
theorem Inv.sz (I : Inv X pins σ H s) : X.s₀.heap.objs.size ≤ s.heap.objs.size := Nat.le_trans I.ok.above (Nat.le_of_lt I.lt)
theorem Inv.Zgl (I : Inv X pins σ H s) {a : Addr} (h : s.heap.objs.size ≤ a) : a ∉ X.fs := fun hb => by
 obtain ⟨_, o, ho, _⟩ := I.ok.Lx.mem hb
 exact absurd (Nat.lt_of_lt_of_le (Heap.lt_size ho) (Nat.le_trans I.sz h)) (Nat.lt_irrefl _)
theorem Inv.cne (I : Inv X pins σ H s) : ∀ x c, X.env.cells.lookup x = some c → c ≠ X.env.locals := fun x c e z => by
 obtain ⟨v, o, ho, hd⟩ := I.cell x c e
 obtain ⟨m, ⟨o', es, ep, ho', hd', _⟩, _⟩ := I.loc
 rw [z, ho'] at ho; cases ho; rw [hd'] at hd; cases hd
theorem Inv.Lx (I : Inv X pins σ H s) : s.heap.FunFrames X.base X.outer := by
 have all : ∀ (l : List Env), (∀ b ∈ frs l, b ∈ X.fs) → X.s₀.heap.FunFrames X.base l → s.heap.FunFrames X.base l := by
  intro l
  induction l with
  | nil => intro _ _; trivial
  | cons env r ih =>
   intro hs hl
   obtain ⟨hk, ⟨L, o, hf, hn, ho, hd⟩, hr⟩ := hl
   have hL : L ∈ X.fs := hs L (by unfold frs; rw [List.filterMap_cons, hf]; exact List.mem_cons_self)
   obtain ⟨sl, e⟩ := I.base.slot L o ho (I.ok.frf L hL) hL fun z => I.ok.exfs L z hL
   exact ⟨hk, ⟨L, _, hf, hn, e, hd⟩, ih (fun b hb => hs b (by unfold frs; rw [List.filterMap_cons, hf]; exact List.mem_cons_of_mem _ hb)) hr⟩
 exact all X.outer (fun _ hb => hb) I.ok.Lx
theorem Inv.stack (I : Inv X pins σ H s) : s.heap.FunFrames X.base X.stack := by
 rcases I.ok.stk with e | ⟨e, hf⟩
 ·rw [e]; exact I.Lx
 ·rw [e]
  obtain ⟨m, hn, _⟩ := I.loc
  refine .cons (by rw [I.ok.kind]; decide) hf hn ?_ I.Lx
  exact Heap.get?_none_of_le (Nat.le_trans I.ok.bsz I.ok.above)
theorem Inv.Dh (I : Inv X pins σ H s) : ∀ b ∈ frs X.stack, b ∈ X.env.locals :: X.fs := fun b hb => by
 rcases I.ok.stk with e | ⟨e, hf⟩
 ·rw [e] at hb; exact List.mem_cons_of_mem _ hb
 ·rw [e] at hb
  unfold frs at hb
  rw [List.filterMap_cons, hf] at hb
  exact hb
theorem Inv.G8 (I : Inv X pins σ H s) : ∀ b ∈ frs X.stack, H b = none := fun b hb => by
 rcases List.mem_cons.mp (I.Dh b hb) with e | hb
 ·rw [e]; exact I.free
 ·obtain ⟨_, o, ho, _⟩ := I.ok.Lx.mem hb
  exact I.base.free b o ho (I.ok.frf b hb) fun z => I.ok.exfs b z hb
theorem Inv.step {g' : Array GenState} {t' : Nat} {d' : Drawn} {ch : List Addr} (I : Inv X pins σ H s)
  (hch : ∀ b ∈ ch, (b ∈ X.ex ∨ X.s₀.heap.objs.size ≤ b) ∧ b ≠ X.env.locals ∧ (∀ x c, X.env.cells.lookup x = some c → c ≠ b) ∧ ∀ p ∈ X.pn ++ pins, p.1 ≠ b)
  (keep : ∀ b o, b ≠ X.env.locals → b ∉ X.fs → b ∉ ch → s.heap.get? b = some o → H b = none → h'.get? b = some o)
  (slot : ∀ b o, b ≠ X.env.locals → b ∈ X.fs → b ∉ ch → s.heap.get? b = some o → H b = none → ∃ sl, h'.get? b = some { o with slots := sl }) (free : ∀ b o, b ∉ ch → s.heap.get? b = some o → H b = none → H' b = none)
  (there : ∀ b o, b ∉ ch → s.heap.get? b = some o → ∃ o', h'.get? b = some o')
  (tups : ∀ b xs, H b = some (.tup xs) → H' b = some (.tup xs)) (frzs : ∀ b o u, H b = some (.frz o u) → H' b = some (.frz o u)) (tbls : ∀ b ps, H b = some (.tbl ps) → ∃ more, H' b = some (.tbl (ps ++ more)))
  (ns : ∀ m, s.heap.Ns X.env.locals m → h'.Ns X.env.locals m) (hok : HOk X.prog X.w H' h') (hg : AllBare g') :
  Inv X pins σ H' { s with heap := h', gens := g', drawn := d', toks := t' } := by
 have neL : ∀ b o, X.s₀.heap.get? b = some o → b ≠ X.env.locals := fun b o e => Nat.ne_of_lt (Nat.lt_of_lt_of_le (Heap.lt_size e) I.ok.above)
 have neC : ∀ b o, X.s₀.heap.get? b = some o → b ∉ X.ex → b ∉ ch := fun b o e hx hb => by
  rcases (hch b hb).1 with z | z
  ·exact hx z
  ·exact absurd (Nat.lt_of_lt_of_le (Heap.lt_size e) z) (Nat.lt_irrefl _)
 have cellK : ∀ x c, X.env.cells.lookup x = some c → ∀ v, s.heap.IsCell c v → h'.IsCell c v := fun x c e v ⟨o, ho, hd⟩ => by
  have nch : c ∉ ch := fun z => (hch c z).2.2.1 x c e rfl
  by_cases hc : c ∈ X.fs
  ·obtain ⟨sl, q⟩ := slot c o (I.cne x c e) hc nch ho (I.freeC x c e)
   exact ⟨_, q, hd⟩
  ·exact ⟨o, keep c o (I.cne x c e) hc nch ho (I.freeC x c e), hd⟩
 refine ⟨I.ok, I.os, hg, ⟨fun b o e n hb hx => ?_, fun b o e n hb hx => ?_, fun b o e n hx => ?_, fun b o e hx => ?_, fun b xs e => tups b xs (I.base.tups b xs e), fun b o xs e => frzs b o xs (I.base.frzs b o xs e), fun b ps e => ?_⟩, ?_, fun x c e => ?_, ?_, fun x c e => ?_, fun p hp => ?_, hok, I.len⟩
 ·exact keep b o (neL b o e) hb (neC b o e hx) (I.base.keep b o e n hb hx) (I.base.free b o e n hx)
 ·obtain ⟨sl, e1⟩ := I.base.slot b o e n hb hx
  obtain ⟨sl', e2⟩ := slot b _ (neL b o e) hb (neC b o e hx) e1 (I.base.free b o e n hx)
  exact ⟨sl', e2⟩
 ·obtain ⟨o', e1⟩ := I.base.there b o e hx
  exact free b o' (neC b o e hx) e1 (I.base.free b o e n hx)
 ·obtain ⟨o', e1⟩ := I.base.there b o e hx
  exact there b o' (neC b o e hx) e1
 ·obtain ⟨m1, e1⟩ := I.base.tbls b ps e
  obtain ⟨m2, e2⟩ := tbls b _ e1
  exact ⟨m1 ++ m2, by rw [e2, Array.append_assoc]⟩
 ·obtain ⟨m, hn, hl⟩ := I.loc
  refine ⟨m, ns m hn, fun i x v e1 e2 e3 => ?_⟩
  obtain ⟨u, r, l⟩ := hl i x v e1 e2 e3
  refine ⟨u, r, ?_⟩
  rcases l with l | ⟨k, c, e, z⟩
  ·exact .inl l
  ·exact .inr ⟨k, c, e, cellK x c e _ z⟩
 ·obtain ⟨v, z⟩ := I.cell x c e
  exact ⟨v, cellK x c e v z⟩
 ·obtain ⟨m, ⟨o, _, _, ho, _⟩, _⟩ := I.loc
  exact free _ o (fun z => (hch _ z).2.1 rfl) ho I.free
 ·obtain ⟨v, o, ho, hd⟩ := I.cell x c e
  exact free c o (fun z => (hch c z).2.2.1 x c e rfl) ho (I.freeC x c e)
 ·obtain ⟨e, n, ne, nf, d⟩ := I.pin p hp
  have nch : p.1 ∉ ch := fun z => (hch p.1 z).2.2.2 p hp rfl
  exact ⟨keep p.1 p.2 ne nf nch e n, free p.1 p.2 nch e n, ne, nf, d⟩
theorem Inv.un {t' : Nat} (I : Inv X pins σ H s) (u : Un X.fs [] H H' s.heap h') (hok : HOk X.prog X.w H' h') : Inv X pins σ H' { s with heap := h', toks := t' } := by
 obtain ⟨m, ⟨o, es, ep, ho, r⟩, _⟩ := id I.loc
 obtain ⟨sl, hL⟩ := u.any ho I.free (by simp)
 exact I.step (g' := s.gens) (d' := s.drawn) (ch := []) (fun _ z => nomatch z) (fun b o _ hb _ e n => u.keep b o e n hb (by simp)) (fun b o _ hb _ e n => u.slot b o e n hb (by simp)) (fun b o _ e n => u.free b o e n (by simp)) (fun b o _ e => u.there b o e (by simp)) u.tups u.frzs u.tbls (fun m' hm => by
  obtain ⟨o', es', ep', ho', r'⟩ := hm
  rw [ho] at ho'; cases ho'
  exact ⟨_, es', ep', hL, r'⟩) hok I.bare
theorem Inv.call {g' : Array GenState} {t' : Nat} {d' : Drawn} {ch : List Addr} (I : Inv X pins σ H s) (u : Un (frs X.stack) ch H H' s.heap h') (hok : HOk X.prog X.w H' h') (hg : AllBare g')
  (hch : ∀ b ∈ ch, (b ∈ X.ex ∨ X.s₀.heap.objs.size ≤ b) ∧ b ≠ X.env.locals ∧ (∀ x c, X.env.cells.lookup x = some c → c ≠ b) ∧ ∀ p ∈ X.pn ++ pins, p.1 ≠ b) :
  Inv X pins σ H' { s with heap := h', gens := g', drawn := d', toks := t' } := by
 obtain ⟨m, ⟨o, es, ep, ho, r⟩, _⟩ := id I.loc
 obtain ⟨sl, hL⟩ := u.any ho I.free fun z => (hch _ z).2.1 rfl
 exact I.step (ch := ch) hch (fun b o hL hb hc e n => u.keep b o e n (fun z => (List.mem_cons.mp (I.Dh b z)).elim hL hb) hc) (fun b o _ _ hc e n => u.any e n hc) (fun b o hc e n => u.free b o e n hc) (fun b o hc e => u.there b o e hc) u.tups u.frzs u.tbls (fun m' hm => by
  obtain ⟨o', es', ep', ho', r'⟩ := hm
  rw [ho] at ho'; cases ho'
  exact ⟨_, es', ep', hL, r'⟩) hok hg
theorem Inv.turned {t' : Nat} {it : Addr} (I : Inv X pins σ H s) (k : ∀ b o, b ≠ it → s.heap.get? b = some o → h'.get? b = some o) (hn : H it = none) (hL : it ≠ X.env.locals)
  (h1 : it ∈ X.ex ∨ X.s₀.heap.objs.size ≤ it) (h2 : ∀ x c, X.env.cells.lookup x = some c → c ≠ it) (h3 : ∀ p ∈ X.pn ++ pins, p.1 ≠ it) : Inv X pins σ H { s with heap := h', toks := t' } := by
 have nit : ∀ b u, H b = some u → b ≠ it := fun b u e z => by rw [z, hn] at e; cases e
 refine I.step (g' := s.gens) (d' := s.drawn) (ch := [it]) (fun b hb => ?_) (fun b o _ _ hc e _ => k b o (fun z => hc (by simp [z])) e) (fun b o _ _ hc e _ => ⟨o.slots, k b o (fun z => hc (by simp [z])) e⟩) (fun _ _ _ _ n => n)
  (fun b o hc e => ⟨o, k b o (fun z => hc (by simp [z])) e⟩) (fun _ _ e => e) (fun _ _ _ e => e) (fun b ps e => ⟨#[], by rw [e]; simp⟩) (fun m hm => ?_) (fun b u e => ?_) I.bare
 ·have e : b = it := by simpa using hb
  subst e
  exact ⟨h1, hL, h2, h3⟩
 ·obtain ⟨o, es, ep, ho, r⟩ := hm
  exact ⟨o, es, ep, k _ o (Ne.symm hL) ho, r⟩
 ·refine (I.hok b u e).Rg (fun c v hc q => k c v ?_ q) (fun _ q => q) fun _ _ q => q
  rcases hc with z | z
  ·rw [z]; exact nit b u e
  ·exact nit c _ z
theorem Inv.tok (I : Inv X pins σ H s) (t : Nat) : Inv X pins σ H { s with toks := t } := I.un (h' := s.heap) (t' := t) Un.refl I.hok
theorem Inv.kept {t' : Nat} (I : Inv X pins σ H s) (k : ∀ b u, s.heap.get? b = some u → h'.get? b = some u) : Inv X pins σ H { s with heap := h', toks := t' } := I.un (Un.kept k) (I.hok.kept k)
theorem Inv.laid {a : Addr} {o : HO} {t' : Nat} (I : Inv X pins σ H s) (k : ∀ b u, s.heap.get? b = some u → h'.get? b = some u) (hp : s.heap.objs.size ≤ a) (new : J8 X.prog X.w (upd H a o) h' a o) :
  Inv X pins σ (upd H a o) { s with heap := h', toks := t' } := I.un (Un.laid k hp (I.hok.fresh hp)) (I.hok.laid k hp new)
theorem Inv.write {x e : Addr} {o : HO} {t' : Nat} (I : Inv X pins σ H s) (mu : Mut (H x)) (he : e = x ∨ H e = some (.own x)) (k : ∀ b u, b ≠ e → s.heap.get? b = some u → h'.get? b = some u) (heo : ∃ u, h'.get? e = some u)
  (new : J8 X.prog X.w (upd H x o) h' x o) : Inv X pins σ (upd H x o) { s with heap := h', toks := t' } := I.un (Un.write mu he k heo) (I.hok.write mu he k heo new)
theorem Inv.YS {pins' : List (Addr × Obj)} (I : Inv X pins σ H s) (h : ∀ p ∈ pins', s.heap.get? p.1 = some p.2 ∧ H p.1 = none ∧ p.1 ≠ X.env.locals ∧ p.1 ∉ X.fs ∧ ∀ v, p.2.data ≠ .cell v) : Inv X pins' σ H s :=
 ⟨I.ok, I.os, I.bare, I.base, I.loc, I.cell, I.free, I.freeC, fun p hp => (List.mem_append.mp hp).elim (fun z => I.pin p (List.mem_append_left _ z)) (h p), I.hok, I.len⟩
theorem Dd {N : List Str} (hN : N.Nodup) {i j : Nat} {x : Str} (a : N[i]? = some x) (b : N[j]? = some x) : i = j := by
 obtain ⟨h1, e1⟩ := List.getElem?_eq_some_iff.mp a
 obtain ⟨h2, e2⟩ := List.getElem?_eq_some_iff.mp b
 exact (List.getElem_inj hN).mp (e1.trans e2.symm)
theorem Fv {M : Model} {A : Around} {E : Value → Shared → Prop} {i : Nat} {x : Str} {v : V} {u : Value} {Q : Unit → Shared → Prop} (I : Inv X pins σ H s) (hN : X.N.Nodup) (hi : X.N[i]? = some x) (hx : Loc X.env.scope x) (r : RelV v u)
  (h : ∀ s', Inv X pins (σ.set i (some v)) H s' → (∃ a, Heap.SameBut a s.heap s'.heap ∧ (a = X.env.locals ∨ X.env.cells.lookup x = some a)) → Q () s') (hf : autoParam (X.fn x = true ∨ X.env.scope.names.lookup x = some .local) zz0._auto_1) : wpAny M A (storeName X.env x u) Q E s := by
 obtain ⟨m, hn, hl⟩ := id I.loc
 have hcls : (X.env.scope.kind == .class || (X.env.scope.kind == .module && X.env.locals != X.env.globals)) = false := by rw [I.ok.kind]; rfl
 have hiσ : i < σ.length := by rw [I.len]; exact (List.getElem?_eq_some_iff.mp hi).1
 have cne := I.cne
 have tracked : ∀ {a : Addr} {h' : Heap}, (∃ o, s.heap.get? a = some o ∧ H a = none) → Heap.SameBut a s.heap h' → HOk X.prog X.w H h' := fun {a h'} ha hs b ob e => by
  obtain ⟨_, _, hfree⟩ := ha
  refine (I.hok b ob e).Rg (fun c w' hc q => (hs.2 c ?_).trans q) (fun _ q => q) fun _ _ q => q
  rintro rfl
  rcases hc with rfl | hc
  ·rw [hfree] at e; cases e
  ·rw [hfree] at hc; cases hc
 rcases hx with hk | hk
 ·refine wpAny_storeName_local hk hn (fun h' hn' hs => ?_) hcls
  obtain ⟨oL, _, _, hoL, _⟩ := id hn
  refine h _ ⟨I.ok, I.os, I.bare, ⟨fun b o e n hb hx => ?_, fun b o e n hb hx => ?_, I.base.free, fun b o e hx => ?_, I.base.tups, I.base.frzs, I.base.tbls⟩, ⟨_, hn', fun j y v' e1 e2 e3 => ?_⟩, fun y c e => ?_, I.free, I.freeC, fun p hp => ?_, tracked ⟨oL, hoL, I.free⟩ hs, by simpa using I.len⟩ ⟨_, hs, .inl rfl⟩
  ·exact (hs.2 b (Nat.ne_of_lt (Nat.lt_of_lt_of_le (Heap.lt_size e) I.ok.above))).trans (I.base.keep b o e n hb hx)
  ·obtain ⟨sl, e1⟩ := I.base.slot b o e n hb hx
   exact ⟨sl, (hs.2 b (Nat.ne_of_lt (Nat.lt_of_lt_of_le (Heap.lt_size e) I.ok.above))).trans e1⟩
  ·obtain ⟨o', e1⟩ := I.base.there b o e hx
   exact ⟨o', (hs.2 b (Nat.ne_of_lt (Nat.lt_of_lt_of_le (Heap.lt_size e) I.ok.above))).trans e1⟩
  ·by_cases hj : j = i
   ·subst hj
    rw [hi] at e1; cases e1
    rw [List.getElem?_set_self hiσ] at e2
    cases e2
    exact ⟨u, r, .inl ⟨hk, by simp⟩⟩
   ·rw [List.getElem?_set_ne (Ne.symm hj)] at e2
    obtain ⟨u', r', q⟩ := hl j y v' e1 e2 e3
    refine ⟨u', r', ?_⟩
    rcases q with ⟨k, e⟩ | ⟨k, c, e, z⟩
    ·refine .inl ⟨k, ?_⟩
     have : y ≠ x := fun e => hj (Dd hN e1 (e ▸ hi))
     simp [this, e]
    ·exact .inr ⟨k, c, e, z.sameBut hs (cne y c e)⟩
  ·obtain ⟨w', z⟩ := I.cell y c e
   exact ⟨w', z.sameBut hs (cne y c e)⟩
  ·obtain ⟨e, n, ne, nf, d⟩ := I.pin p hp
   exact ⟨(hs.2 p.1 ne).trans e, n, ne, nf, d⟩
 ·have hfn : X.fn x = true := by
   rcases hf with z | z
   ·exact z
   ·rw [z] at hk; cases hk
  obtain ⟨c, hc⟩ := I.ok.has x (.inl hk)
  obtain ⟨w', z⟩ := I.cell x c hc
  refine wpAny_storeName_cell I.ok.kind hk hc z (fun h' hc' hs => ?_)
  obtain ⟨oc, hoc, hocd⟩ := id z
  refine h { s with heap := h' } ⟨I.ok, I.os, I.bare, ⟨fun b o e n hb hx => ?_, fun b o e n hb hx => ?_, I.base.free, fun b o e hx => ?_, I.base.tups, I.base.frzs, I.base.tbls⟩, ⟨m, hn.sameBut hs (Ne.symm (cne x c hc)), fun j y v' e1 e2 e3 => ?_⟩, fun y c' e => ?_, I.free, I.freeC, fun p hp => ?_, tracked ⟨oc, hoc, I.freeC x c hc⟩ hs, by simpa using I.len⟩ ⟨c, hs, .inr hc⟩
  ·exact (hs.2 b (Nat.ne_of_lt (Nat.lt_of_lt_of_le (Heap.lt_size e) (I.ok.cab x c hfn hc)))).trans (I.base.keep b o e n hb hx)
  ·obtain ⟨sl, e1⟩ := I.base.slot b o e n hb hx
   exact ⟨sl, (hs.2 b (Nat.ne_of_lt (Nat.lt_of_lt_of_le (Heap.lt_size e) (I.ok.cab x c hfn hc)))).trans e1⟩
  ·obtain ⟨o', e1⟩ := I.base.there b o e hx
   exact ⟨o', (hs.2 b (Nat.ne_of_lt (Nat.lt_of_lt_of_le (Heap.lt_size e) (I.ok.cab x c hfn hc)))).trans e1⟩
  ·by_cases hj : j = i
   ·subst hj
    rw [hi] at e1; cases e1
    rw [List.getElem?_set_self hiσ] at e2
    cases e2
    exact ⟨u, r, .inr ⟨.inl hk, c, hc, hc'⟩⟩
   ·rw [List.getElem?_set_ne (Ne.symm hj)] at e2
    obtain ⟨u', r', q⟩ := hl j y v' e1 e2 e3
    refine ⟨u', r', ?_⟩
    rcases q with q | ⟨k, c', e, z'⟩
    ·exact .inl q
    ·refine .inr ⟨k, c', e, z'.sameBut hs ?_⟩
     rintro rfl
     exact hj (Dd hN e1 (I.ok.inj _ _ _ e hc ▸ hi))
  ·by_cases hcc : c' = c
   ·subst hcc; exact ⟨_, hc'⟩
   ·obtain ⟨w2, z2⟩ := I.cell y c' e
    exact ⟨w2, z2.sameBut hs hcc⟩
  ·obtain ⟨e, n, ne, nf, d⟩ := I.pin p hp
   refine ⟨(hs.2 p.1 ?_).trans e, n, ne, nf, d⟩
   intro q
   rw [q, hoc] at e
   have q' : oc = p.2 := Option.some.inj e
   exact d w' (by rw [← q']; exact hocd)
theorem CJ {M : Model} {A : Around} {E : Value → Shared → Prop} {i : Nat} {x : Str} {v : V} {u : Value} {Q : Unit → Shared → Prop} (I : Inv X pins σ H s) (hN : X.N.Nodup) (hi : X.N[i]? = some x) (hx : Loc X.env.scope x) (r : RelV v u)
  (h : ∀ s', Inv X pins (σ.set i (some v)) H s' → Q () s') (hf : autoParam (X.fn x = true ∨ X.env.scope.names.lookup x = some .local) zz0._auto_1) : wpAny M A (storeName X.env x u) Q E s :=
 Fv I hN hi hx r (fun s' I' _ => h s' I') hf
theorem Inv.SK {s' : Shared} {ch : List Addr} (I : Inv X pins σ H s) (ho : s'.os = s.os) (u : Un (frs X.stack) ch H H' s.heap s'.heap) (hok : HOk X.prog X.w H' s'.heap) (hg : AllBare s'.gens)
  (hch : ∀ b ∈ ch, (b ∈ X.ex ∨ X.s₀.heap.objs.size ≤ b) ∧ b ≠ X.env.locals ∧ (∀ x c, X.env.cells.lookup x = some c → c ≠ b) ∧ ∀ p ∈ X.pn ++ pins, p.1 ≠ b) : Inv X pins σ H' s' := by
 obtain ⟨h', g', d', t', o'⟩ := s'
 have e : o' = s.os := ho
 subst e
 exact I.call (g' := g') (t' := t') (d' := d') u hok hg hch
end
abbrev XK := Value → Option Addr → Hp → Prop
abbrev St := List (Option V)
abbrev VK := V → Hp → Prop
abbrev TE := St → Hp → VK → Prop
abbrev TT := St → Hp → (Bool → Hp → Prop) → Prop
abbrev TA := St → Hp → (List V → Hp → Prop) → Prop
structure Ends where
 nx : St → Hp → Prop
 rt : VK
 bk : St → Hp → Prop := fun _ _ => False
 ct : St → Hp → Prop := fun _ _ => False
abbrev TS := Ends → St → Hp → Prop
def EP (X : Cx) (pins : List (Addr × Obj)) (σ : St) (Q : VK) (u : Value) (s' : Shared) : Prop := ∃ v H', Inv X pins σ H' s' ∧ RelV v u ∧ Q v H'
def TP (X : Cx) (pins : List (Addr × Obj)) (σ : St) (Q : Bool → Hp → Prop) (b : Bool) (s' : Shared) : Prop := ∃ H', Inv X pins σ H' s' ∧ Q b H'
def AP (X : Cx) (pins : List (Addr × Obj)) (σ : St) (Q : List V → Hp → Prop) (us : List Value) (s' : Shared) : Prop := ∃ vs H', Inv X pins σ H' s' ∧ Vals vs us ∧ Q vs H'
def SP (X : Cx) (pins : List (Addr × Obj)) (D : Ends) (f : Flow) (s' : Shared) : Prop :=
 match f with
 | .next => ∃ σ' H', Inv X pins σ' H' s' ∧ D.nx σ' H'
 | .brk => ∃ σ' H', Inv X pins σ' H' s' ∧ D.bk σ' H'
 | .cont => ∃ σ' H', Inv X pins σ' H' s' ∧ D.ct σ' H'
 | .ret u => ∃ v σ' H', Inv X pins σ' H' s' ∧ RelV v u ∧ D.rt v H'
def PE (X : Cx) (e : Expr) (t : TE) : Prop :=
 ∀ (pins : List (Addr × Obj)) (s : Shared) (σ : St) (H : Hp) (Q : VK), Inv X pins σ H s → t σ H Q → wpAny (model X.prog X.w) X.A (eval e X.env) (EP X pins σ Q) X.xe s
def PT (X : Cx) (e : Expr) (t : TT) : Prop :=
 ∀ (pins : List (Addr × Obj)) (s : Shared) (σ : St) (H : Hp) (Q : Bool → Hp → Prop), Inv X pins σ H s → t σ H Q → wpAny (model X.prog X.w) X.A (isTrue e X.env (eval e X.env)) (TP X pins σ Q) X.xe s
def PW (X : Cx) (e : Expr) (t : TT) : Prop :=
 ∀ (whole : Sem Value) (pins : List (Addr × Obj)) (s : Shared) (σ : St) (H : Hp) (Q : Bool → Hp → Prop), Inv X pins σ H s → t σ H Q → wpAny (model X.prog X.w) X.A (isTrue e X.env whole) (TP X pins σ Q) X.xe s
theorem PW.pt {X : Cx} {e : Expr} {t : TT} (h : PW X e t) : PT X e t := h _
def PA (X : Cx) (es : List Expr) (t : TA) : Prop :=
 ∀ (pos : Pos) (pins : List (Addr × Obj)) (s : Shared) (σ : St) (H : Hp) (Q : List V → Hp → Prop), Inv X pins σ H s → t σ H Q → wpAny (model X.prog X.w) X.A (spliced (backTo pos (starEach es X.env))) (AP X pins σ Q) X.xe s
def PS (X : Cx) (st : Stmt) (t : TS) : Prop :=
 ∀ (pins : List (Addr × Obj)) (s : Shared) (σ : St) (H : Hp) (D : Ends), Inv X pins σ H s → t D σ H → wpAny (model X.prog X.w) X.A (exec st X.env) (SP X pins D) X.xe s
def PSs (X : Cx) (st : List Stmt) (t : TS) : Prop :=
 ∀ (pins : List (Addr × Obj)) (s : Shared) (σ : St) (H : Hp) (D : Ends), Inv X pins σ H s → t D σ H → wpAny (model X.prog X.w) X.A (execs st X.env) (SP X pins D) X.xe s
theorem thn {α : Type} {t : Sem α} {Q Q' : α → Shared → Prop} {M : Model} {A : Around} {E : Value → Shared → Prop} {s : Shared} (h : wpAny M A t Q E s) (hQ : ∀ a s, Q a s → Q' a s) : wpAny M A t Q' E s := wpAny_mono h hQ fun _ _ x => x
end L2
namespace L2
open PySem PySem.Spec PyProof.Rows
section
variable {X : Cx}
def ZfO (i : Nat) : TE := fun σ H Q => ∃ v, σ[i]? = some (some v) ∧ Q v H
def tC (v : V) : TE := fun _ H Q => Q v H
theorem ZcK {i : Nat} {x : Str} {pos : Pos} (hN : X.N[i]? = some x) (hv : Vis X.env.scope x) (hd : autoParam ((x == ("__debug__" : Str)) = false) zz1._auto_1) (hcd : autoParam ((x == ("__classdict__" : Str)) = false) zz1._auto_1) : PE X (.Name x pos) (ZfO i) := by
 intro pins s σ H Q I h
 obtain ⟨v, e, h⟩ := h
 obtain ⟨m, hn, hl⟩ := I.loc
 obtain ⟨u, r, l⟩ := hl i x v hN e hv
 have fin : EP X pins σ Q u s := ⟨v, H, I, r, h⟩
 rcases l with ⟨hk, hm⟩ | ⟨hk, c, hc, hcell⟩
 ·exact wpAny_Name (wpAny_loadName_local I.ok.kind hk hn hm fin) hd
 ·rcases hk with hk | hk
  ·exact wpAny_Name (wpAny_loadName_cell I.ok.kind hk hc hcell fin) hd
  ·exact wpAny_Name (wpAny_loadName_free I.ok.kind hk hc hcell fin hcd) hd
theorem ZcA {i j pos} : PE X (.Constant (.int i) j pos) (tC (.int i)) := fun _ _ _ H _ I h => wpAny_Constant_int ⟨.int i, H, I.tok _, ⟨_, rfl⟩, h⟩
theorem ZdL {b j pos} : PE X (.Constant (.bool b) j pos) (tC (.bl b)) := fun _ _ _ H _ I h => Constant_bool ⟨.bl b, H, I, rfl, h⟩
theorem ZbY {j pos} : PE X (.Constant .none j pos) (tC .non) := fun _ _ _ H _ I h => Constant_none ⟨.non, H, I, rfl, h⟩
theorem ZbX {x j pos} : PE X (.Constant (.str x) j pos) (tC (.str x)) := fun _ _ _ H _ I h => Calls.Constant_str ⟨.str x, H, I.tok _, ⟨_, rfl⟩, h⟩
def Gl (X : Cx) (x : Str) : Prop := X.env.kindOf x = some .globalImplicit
theorem S1 {E : Value → Shared → Prop} {pins : List (Addr × Obj)} {s : Shared} {σ : St} {H : Hp} {x : Str} {u : Value} {pos : Pos} {Q : Value → Shared → Prop} (I : Inv X pins σ H s) (hg : Gl X x) (hm : X.mg x = some u) (h : Q u s)
  (hd : autoParam ((x == ("__debug__" : Str)) = false) zz1._auto_1) : wpAny (model X.prog X.w) X.A (eval (.Name x pos) X.env) Q E s :=
 Calls.Name_function_global I.ok.kind hg (Calls.loadGlobal_global (by rw [I.ok.glob]; exact I.mod.glob.keeps I.bk) hm h) hd
theorem XZ {E : Value → Shared → Prop} {pins : List (Addr × Obj)} {s : Shared} {σ : St} {H : Hp} {x : Str} {u : Value} {pos : Pos} {Q : Value → Shared → Prop} (I : Inv X pins σ H s) (hg : Gl X x) (hm : X.mg x = none) (hv : bootBuiltins x = some u) (h : Q u s)
  (hn : autoParam (x ≠ "__name__") zz1._auto_1) (hd : autoParam ((x == ("__debug__" : Str)) = false) zz1._auto_1) : wpAny (model X.prog X.w) X.A (eval (.Name x pos) X.env) Q E s := by
 obtain ⟨mb, h1, h2⟩ := I.mod.blt
 exact Calls.Name_function_global I.ok.kind hg (Calls.loadGlobal_builtin (by rw [I.ok.glob]; exact I.mod.glob.keeps I.bk) hm (by rw [I.ok.blt]; exact h1.keeps I.bk) ((h2 x hn).trans hv) h) hd
theorem Se {x : Str} {v : V} {u : Value} {pos : Pos} (hg : Gl X x) (hm : X.mg x = none) (hv : bootBuiltins x = some u) (r : RelV v u) (hn : autoParam (x ≠ "__name__") zz1._auto_1) (hd : autoParam ((x == ("__debug__" : Str)) = false) zz1._auto_1) : PE X (.Name x pos) (tC v) :=
 fun _ _ _ H _ I h => XZ I hg hm hv ⟨v, H, I, r, h⟩ hn hd
def t2I (ta tb : TE) (k : Int → Int → Hp → Prop) : St → Hp → Prop := fun σ H => ta σ H fun x H1 => tb σ H1 fun y H2 => ∃ i j, x = .int i ∧ y = .int j ∧ k i j H2
def ZgM (ta tb : TE) : TE := fun σ H Q => t2I ta tb (fun i j H2 => Q (.int (i + j)) H2) σ H
def ZgL (ta tb : TE) : TE := fun σ H Q => t2I ta tb (fun i j H2 => Q (.int (i - j)) H2) σ H
def ZgQ (ta tb : TE) : TE := fun σ H Q => t2I ta tb (fun i j H2 => (-(2 ^ 64) < i ∧ i < 2 ^ 64) ∧ Q (.int (i * j)) H2) σ H
variable {a b : Expr} {ta tb : TE} {pos : Pos}
def PC (X : Cx) (op : CmpOp) (a b : Expr) (t : TE) : Prop :=
 ∀ (pins : List (Addr × Obj)) (s : Shared) (σ : St) (H : Hp) (Q : VK), Inv X pins σ H s → t σ H Q →
  wpAny (model X.prog X.w) X.A (eval a X.env) (fun v s₁ => wpAny (model X.prog X.w) X.A (eval b X.env) (fun u s₂ => wpAny (model X.prog X.w) X.A (compareOp op v u) (EP X pins σ Q) X.xe s₂) X.xe s₁) X.xe s
def Zac (p : Int → Int → Bool) (ta tb : TE) : TE := fun σ H Q => t2I ta tb (fun i j H2 => Q (.bl (p i j)) H2) σ H
abbrev tLt : TE → TE → TE := Zac fun i j => decide (i < j)
abbrev tLe : TE → TE → TE := Zac fun i j => decide (i ≤ j)
abbrev tGt : TE → TE → TE := Zac fun i j => decide (j < i)
abbrev tGe : TE → TE → TE := Zac fun i j => decide (j ≤ i)
abbrev ZgK : TE → TE → TE := Zac fun i j => decide (i = j)
abbrev ZgI : TE → TE → TE := Zac fun i j => !decide (i = j)
def ZgZ (ta : TE) : TE := fun σ H Q => ta σ H fun x H1 => Q (.bl (decide (x = .non))) H1
def Zgr (ta : TE) : TE := fun σ H Q => ta σ H fun x H1 => Q (.bl (!decide (x = .non))) H1
def tB (t : TE) : TT := fun σ H Q => t σ H fun x H1 => ∃ c, x = .bl c ∧ Q c H1
theorem ZaO {e : Expr} {t : TE} (h : PE X e t) (he : autoParam (∀ whole, isTrue e X.env whole = (do let v ← whole; standAt e.pos; holding [v] (truthy v))) zz2._auto_1) : PT X e (tB t) := by
 intro pins s σ H Q I hw
 refine isTrue_plain (thn (h pins s σ H _ I hw) fun v s1 ⟨x, H1, I1, r1, q1⟩ => ?_) (he _)
 obtain ⟨d, rfl, q⟩ := q1
 cases r1
 exact wpAny_truthy_bool ⟨H1, I1, q⟩
variable {tA tB' : TT} {rest : List Expr}
def Zf7 (t u : TT) : TT := fun σ H Q => t σ H fun c H1 => if c = true then u σ H1 Q else Q false H1
def tOr (t u : TT) : TT := fun σ H Q => t σ H fun c H1 => if c = true then Q true H1 else u σ H1 Q
def Zgd (t : TT) : TT := fun σ H Q => t σ H fun c H1 => Q (!c) H1
theorem RK (ha : PT X a tA) : PW X (.BoolOp .And [a] pos) tA := by
 intro wh pins s σ H Q I h
 refine isTrue_and (thn (ha pins s σ H Q I h) fun c s1 e => ?_)
 cases c with
 | true => exact isTrue_and_nil e
 | false => exact e
theorem Zb1 (ha : PT X a tA) : PW X (.BoolOp .Or [a] pos) tA := by
 intro wh pins s σ H Q I h
 refine isTrue_or (thn (ha pins s σ H Q I h) fun c s1 e => ?_)
 cases c with
 | false => exact isTrue_or_nil e
 | true => exact e
theorem ZaD (ha : PT X a tA) (hb : PW X (.BoolOp .And (b :: rest) pos) tB') : PW X (.BoolOp .And (a :: b :: rest) pos) (Zf7 tA tB') := by
 intro wh pins s σ H Q I h
 refine isTrue_and (thn (ha pins s σ H _ I h) fun c s1 ⟨H1, I1, q1⟩ => ?_)
 cases c with
 | true => exact hb wh pins s1 σ H1 Q I1 q1
 | false => exact ⟨H1, I1, q1⟩
theorem Zd8 (ha : PT X a tA) (hb : PW X (.BoolOp .Or (b :: rest) pos) tB') : PW X (.BoolOp .Or (a :: b :: rest) pos) (tOr tA tB') := by
 intro wh pins s σ H Q I h
 refine isTrue_or (thn (ha pins s σ H _ I h) fun c s1 ⟨H1, I1, q1⟩ => ?_)
 cases c with
 | true => exact ⟨H1, I1, q1⟩
 | false => exact hb wh pins s1 σ H1 Q I1 q1
theorem Zb4 (ha : PT X a tA) : PT X (.UnaryOp .Not a pos) (Zgd tA) := by
 intro pins s σ H Q I h
 exact isTrue_not (ha pins s σ H (fun c H1 => Q (!c) H1) I h)
def ZeQ (ta tb : TE) : TE := fun σ H Q => ta σ H fun x H1 => ∃ c, x = .bl c ∧ if c = true then tb σ H1 Q else Q (.bl false) H1
def Zg7 (ta tb : TE) : TE := fun σ H Q => ta σ H fun x H1 => ∃ c, x = .bl c ∧ if c = true then Q (.bl true) H1 else tb σ H1 Q
def Zeh (ta : TE) : TE := fun σ H Q => ta σ H fun x H1 => ∃ c, x = .bl c ∧ Q (.bl (!c)) H1
theorem Zc0 {op} {t : TE} (h : PE X a t) : PE X (.BoolOp op [a] pos) t := fun pins s σ H Q I hw => BoolOp_one (h pins s σ H Q I hw)
theorem ZbZ (ha : PE X a ta) (hb : PE X (.BoolOp .And (b :: rest) pos) tb) : PE X (.BoolOp .And (a :: b :: rest) pos) (ZeQ ta tb) := by
 intro pins s σ H Q I h
 refine BoolOp_and (thn (ha pins s σ H _ I h) fun v s1 ⟨x, H1, I1, r1, q1⟩ => ?_)
 obtain ⟨c, rfl, q1⟩ := q1
 cases r1
 refine wpAny_truthy_bool ?_
 cases c with
 | true => exact hb pins s1 σ H1 Q I1 q1
 | false => exact ⟨.bl false, H1, I1, rfl, q1⟩
theorem Zal (ha : PE X a ta) : PE X (.UnaryOp .Not a pos) (Zeh ta) := by
 intro pins s σ H Q I h
 refine UnaryOp_ (thn (ha pins s σ H _ I h) fun v s1 ⟨x, H1, I1, r1, q1⟩ => ?_)
 obtain ⟨c, rfl, q1⟩ := q1
 cases r1
 exact not_of (wpAny_truthy_bool ⟨.bl (!c), H1, I1, rfl, q1⟩)
def tIf (t : TT) (ta tb : TE) : TE := fun σ H Q => t σ H fun c H1 => if c = true then ta σ H1 Q else tb σ H1 Q
theorem OV {c : Expr} (hc : PT X c tA) (ha : PE X a ta) (hb : PE X b tb) : PE X (.IfExp c a b pos) (tIf tA ta tb) := by
 intro pins s σ H Q I h
 refine wpAny_IfExp (thn (hc pins s σ H _ I h) fun d s1 ⟨H1, I1, q1⟩ => ?_)
 cases d with
 | true => exact ha pins s1 σ H1 Q I1 q1
 | false => exact hb pins s1 σ H1 Q I1 q1
end
end L2
namespace L2
open PySem PySem.Spec PyProof.Rows
def SqL (K : PySem.W.Frag) (H : Hp) (a : Addr) (xs : List V) : Prop :=
 Rd H a (.lst xs) ∨
  ∃ (o : Obj) (its : Array Value) (n : Nat), K.lookup a = some o ∧ o.cls = .type "list" ∧ o.dict = none ∧ o.data = .seq its n ∧ its.size ≤ sizeLine ∧ Vals xs its.toList
def SqT (K : PySem.W.Frag) (H : Hp) (a : Addr) (xs : List V) : Prop :=
 Rd H a (.tup xs) ∨
  ∃ (o : Obj) (its : Array Value) (n : Nat), K.lookup a = some o ∧ o.cls = .type "tuple" ∧ o.data = .seq its n ∧ its.size ≤ sizeLine ∧ Vals xs its.toList
noncomputable def Zgh : Value → Option V
 | .none => some .non
 | .bool b => some (.bl b)
 | .int i _ => some (.int i)
 | .str x _ => some (.str x)
 | .bytes b _ => some (.byt b)
 | .float b _ => some (.flt b)
 | .ref a => some (.ref a)
 | .type n => some (.ty n)
 | _ => none
theorem RelV.abs {x : V} {u : Value} (r : RelV x u) : Zgh u = some x := by
 cases x with
 | non => cases r; rfl
 | bl _ => cases r; rfl
 | int _ => obtain ⟨t, rfl⟩ := r; rfl
 | str _ => obtain ⟨t, rfl⟩ := r; rfl
 | byt _ => obtain ⟨t, rfl⟩ := r; rfl
 | flt _ => obtain ⟨t, rfl⟩ := r; rfl
 | ref _ => cases r; rfl
 | ty _ => cases r; rfl
theorem RelV.inj {x y : V} {u : Value} (r : RelV x u) (q : RelV y u) : x = y := Option.some.inj (r.abs.symm.trans q.abs)
theorem Vals.inj : ∀ {xs ys : List V} {us : List Value}, Vals xs us → Vals ys us → xs = ys
 | _, _, _, .nil, .nil => rfl
 | _, _, _, .cons r t, .cons r' t' => by rw [r.inj r', Vals.inj t t']
section
variable {X : Cx} {pins : List (Addr × Obj)} {σ : St} {H : Hp} {s : Shared} {a : Addr} {xs ys : List V}
theorem SqL.of {K : PySem.W.Frag} (h : H a = some (.lst xs)) : SqL K H a xs := .inl (.inl h)
theorem SqT.of {K : PySem.W.Frag} (h : H a = some (.tup xs)) : SqT K H a xs := .inl (.inl h)
theorem Inv.list (I : Inv X pins σ H s) (h : SqL X.K H a xs) : ∃ its : List Value, Vals xs its ∧ PlainL s.heap a its.toArray ∧ xs.length ≤ sizeLine := by
 rcases h with h | ⟨o, its, n, hk, hc, hd, hs, hz, r⟩
 ·obtain ⟨z, its, n, r, e⟩ := h.ok I.hok
  exact ⟨its, r, ⟨_, n, e, rfl, rfl, rfl⟩, z⟩
 ·refine ⟨its.toList, r, ⟨o, n, I.kIn a o hk, hc, hd, by simpa using hs⟩, ?_⟩
  have e := r.length
  simp only [Array.length_toList] at e
  omega
theorem Inv.tuple (I : Inv X pins σ H s) (h : SqT X.K H a xs) : ∃ its : List Value, Vals xs its ∧ IsTup s.heap a its.toArray ∧ xs.length ≤ sizeLine := by
 rcases h with h | ⟨o, its, n, hk, hc, hs, hz, r⟩
 ·obtain ⟨z, its, r, p⟩ := h.ok I.hok
  exact ⟨its, r, p, z⟩
 ·refine ⟨its.toList, r, ⟨o, I.kIn a o hk, hc, n, by simpa using hs⟩, ?_⟩
  have e := r.length
  simp only [Array.length_toList] at e
  omega
theorem Inv.CG (I : Inv X pins σ H s) (h : SqL X.K H a xs) (h' : SqL X.K H a ys) : xs = ys := by
 obtain ⟨its, r, ⟨o, n, e, _, _, d⟩, _⟩ := I.list h
 obtain ⟨its', r', ⟨o', n', e', _, _, d'⟩, _⟩ := I.list h'
 rw [e] at e'; cases e'
 rw [d] at d'
 injection d' with d1 _
 have : its = its' := by simpa using congrArg Array.toList d1
 subst this
 exact r.inj r'
theorem Inv.GN (I : Inv X pins σ H s) (h : SqT X.K H a xs) (h' : SqT X.K H a ys) : xs = ys := by
 obtain ⟨its, r, ⟨o, e, _, n, d⟩, _⟩ := I.tuple h
 obtain ⟨its', r', ⟨o', e', _, n', d'⟩, _⟩ := I.tuple h'
 rw [e] at e'; cases e'
 rw [d] at d'
 injection d' with d1 _
 have : its = its' := by simpa using congrArg Array.toList d1
 subst this
 exact r.inj r'
end
noncomputable abbrev Cx.Mg (X : Cx) (E : Value → Shared → Prop) : Cx := { X with xe := E }
noncomputable abbrev Cx.nox (X : Cx) : Cx := X.Mg fun _ _ => False
theorem Cx.Ok.Mg {X : Cx} (ok : X.Ok) (E : Value → Shared → Prop) : (X.Mg E).Ok :=
 ⟨ok.mod, ok.kind, ok.glob, ok.blt, ok.above, ok.inj, ok.has, ok.cab, ok.hd, ok.frames, ok.stk, ok.exf, ok.bs, ok.bsz, ok.noex, ok.exfs, ok.Lx, ok.frf⟩
theorem Cx.Ok.Xm {X : Cx} {E : Value → Shared → Prop} (ok : (X.Mg E).Ok) : X.Ok :=
 ⟨ok.mod, ok.kind, ok.glob, ok.blt, ok.above, ok.inj, ok.has, ok.cab, ok.hd, ok.frames, ok.stk, ok.exf, ok.bs, ok.bsz, ok.noex, ok.exfs, ok.Lx, ok.frf⟩
section
variable {X : Cx} {pins : List (Addr × Obj)} {σ : St} {H : Hp} {s : Shared} {E : Value → Shared → Prop}
theorem Inv.Mg (I : Inv X pins σ H s) (E : Value → Shared → Prop) : Inv (X.Mg E) pins σ H s := ⟨I.ok.Mg E, I.os, I.bare, I.base, I.loc, I.cell, I.free, I.freeC, I.pin, I.hok, I.len⟩
theorem Inv.Xm (I : Inv (X.Mg E) pins σ H s) : Inv X pins σ H s := ⟨I.ok.Xm, I.os, I.bare, I.base, I.loc, I.cell, I.free, I.freeC, I.pin, I.hok, I.len⟩
theorem SP.Xm {D : Ends} {f : Flow} {s' : Shared} (h : SP (X.Mg E) pins D f s') : SP X pins D f s' := by
 cases f with
 | next => obtain ⟨σ', H', I, q⟩ := h; exact ⟨σ', H', I.Xm, q⟩
 | brk => obtain ⟨σ', H', I, q⟩ := h; exact ⟨σ', H', I.Xm, q⟩
 | cont => obtain ⟨σ', H', I, q⟩ := h; exact ⟨σ', H', I.Xm, q⟩
 | ret u => obtain ⟨v, σ', H', I, r, q⟩ := h; exact ⟨v, σ', H', I.Xm, r, q⟩
theorem PSs.nox {st : List Stmt} {t : TS} (h : PSs X.nox st t) : PSs X st t := fun pins s σ H D I hw =>
 wpAny_mono (h pins s σ H D (I.Mg _) hw) (fun _ _ q => q.Xm) fun _ _ z => False.elim z
end
section
variable {X : Cx} {st : Stmt} {rest : List Stmt} {t u : TS} {e : Expr} {te : TE} {pos : Pos}
def ZdD : TS := fun D σ H => D.nx σ H
def ZfX (t u : TS) : TS := fun D σ H => t { D with nx := u D } σ H
theorem R0 : PSs X [] ZdD := fun _ _ σ H _ I h => wpAny_execs_nil ⟨σ, H, I, h⟩
theorem NK (h1 : PS X st t) (h2 : PSs X rest u) : PSs X (st :: rest) (ZfX t u) := by
 intro pins s σ H D I h
 refine wpAny_execs_cons (thn (h1 pins s σ H { D with nx := u D } I h) fun f s1 q => ?_)
 cases f with
 | next =>
  obtain ⟨σ', H', I', q⟩ := q
  exact h2 pins s1 σ' H' D I' q
 | ret v => exact q
 | brk => exact q
 | cont => exact q
theorem SY (h1 : PS X st t) : PSs X [st] t := by
 intro pins s σ H D I h
 refine wpAny_execs_cons (thn (h1 pins s σ H D I h) fun f s1 q => ?_)
 cases f with
 | next => exact wpAny_execs_nil q
 | ret v => exact q
 | brk => exact q
 | cont => exact q
def Zfb : TS := fun D σ H => D.bk σ H
def Zgt : TS := fun D σ H => D.ct σ H
theorem Inv.quiet {pins : List (Addr × Obj)} {σ : St} {H : Hp} {s : Shared} (I : Inv X pins σ H s) : interactive X.env = false := by simp [interactive, I.ok.kind]
def Zd0 (te : TE) : TS := fun D σ H => te σ H fun _ H1 => D.nx σ H1
theorem Rv (he : PE X e te) (hs : autoParam (swapsWith e none pos.line X.env = pure false) zz3._auto_1) : PS X (.Expr e pos) (Zd0 te) := by
 intro pins s σ H D I h
 exact wpAny_Expr_any (thn (he pins s σ H _ I h) fun v s1 ⟨x, H1, I1, r1, q1⟩ => ⟨σ, H1, I1, q1⟩) I.quiet hs
def Zga (te : TE) : TS := fun D σ H => te σ H D.rt
theorem Zba (he : PE X e te) : PS X (.Return (some e) pos) (Zga te) := by
 intro pins s σ H D I h
 exact wpAny_Return_some (thn (he pins s σ H _ I h) fun v s1 ⟨x, H1, I1, r1, q1⟩ => ⟨x, σ, H1, I1, r1, q1⟩)
def Zgo : TS := fun D _ H => D.rt .non H
def ZgD (c : TT) (t u : TS) : TS := fun D σ H => c σ H fun b H1 => if b = true then t D σ H1 else u D σ H1
theorem ZeJ {c : Expr} {a b : List Stmt} {tc : TT} (hc : PT X c tc) (ha : PSs X a t) (hb : PSs X b u) : PS X (.If c a b pos) (ZgD tc t u) := by
 intro pins s σ H D I h
 refine wpAny_If (thn (hc pins s σ H _ I h) fun d s1 ⟨H1, I1, q1⟩ => ?_)
 cases d with
 | true => exact ha pins s1 σ H1 D I1 q1
 | false => exact hb pins s1 σ H1 D I1 q1
def Ze2 : TS := fun _ _ _ => False
end
abbrev TG := V → St → Hp → (St → Hp → Prop) → Prop
abbrev TGs := List V → St → Hp → (St → Hp → Prop) → Prop
def PG (X : Cx) (target : Expr) (t : TG) : Prop :=
 ∀ (pins : List (Addr × Obj)) (s : Shared) (σ : St) (H : Hp) (v : V) (u : Value) (Q : St → Hp → Prop), Inv X pins σ H s → RelV v u → t v σ H Q →
  wpAny (model X.prog X.w) X.A (assign target X.env u) (fun _ s' => ∃ σ' H', Inv X pins σ' H' s' ∧ Q σ' H') X.xe s
def PGs (X : Cx) (ts : List Expr) (t : TGs) : Prop :=
 ∀ (pins : List (Addr × Obj)) (s : Shared) (σ : St) (H : Hp) (vs : List V) (us : List Value) (Q : St → Hp → Prop), Inv X pins σ H s → Vals vs us → t vs σ H Q →
  wpAny (model X.prog X.w) X.A (assignInOrder ((assignEach ts X.env).map (·.2)) us) (fun _ s' => ∃ σ' H', Inv X pins σ' H' s' ∧ Q σ' H') X.xe s
abbrev Zdm := V → V → V → Hp → (Hp → Prop) → Prop
def ZfJ (X : Cx) (t : Zdm) : Prop :=
 ∀ (pins : List (Addr × Obj)) (s : Shared) (σ : St) (H : Hp) (o i v : V) (ov iv u : Value) (Q : Hp → Prop), Inv X pins σ H s → RelV o ov → RelV i iv → RelV v u → t o i v H Q →
  wpAny (model X.prog X.w) X.A (setItem ov iv u) (fun _ s' => ∃ H', Inv X pins σ H' s' ∧ Q H') X.xe s
abbrev TIp := V → V → Hp → VK → Prop
def PIp (X : Cx) (op : Operator) (t : TIp) : Prop :=
 ∀ (pins : List (Addr × Obj)) (s : Shared) (σ : St) (H : Hp) (x y : V) (v u : Value) (Q : VK), Inv X pins σ H s → RelV x v → RelV y u → t x y H Q →
  wpAny (model X.prog X.w) X.A (inplaceOp op v u) (EP X pins σ Q) X.xe s
section
variable {X : Cx} {pos : Pos}
def Zce (i : Nat) : TG := fun v σ H Q => Q (σ.set i (some v)) H
theorem LC {i : Nat} {x : Str} (hN : X.N.Nodup) (hi : X.N[i]? = some x) (hx : Loc X.env.scope x) (hf : autoParam (X.fn x = true ∨ X.env.scope.names.lookup x = some .local) zz0._auto_1) : PG X (.Name x pos) (Zce i) := by
 intro pins s σ H v u Q I r h
 exact wpAny_assign_Name (CJ I hN hi hx r (fun s' I' => ⟨_, H, I', h⟩) hf)
def Zgy : TGs := fun vs σ H Q => vs = [] ∧ Q σ H
def Zej (t : TG) (u : TGs) : TGs := fun vs σ H Q => ∃ v r, vs = v :: r ∧ t v σ H fun σ' H' => u r σ' H' Q
theorem TY : PGs X [] Zgy := by
 intro pins s σ H vs us Q I r h
 obtain ⟨e, h⟩ := h
 subst e
 cases r
 exact assignInOrder_nil ⟨σ, H, I, h⟩
theorem MM {e : Expr} {es : List Expr} {t : TG} {u : TGs} (h1 : PG X e t) (h2 : PGs X es u)
  (hs : autoParam ((assignEach (e :: es) X.env).map (·.2) = assign e X.env :: (assignEach es X.env).map (·.2)) zz3._auto_1) : PGs X (e :: es) (Zej t u) := by
 intro pins s σ H vs us Q I r h
 obtain ⟨v, vr, e1, h⟩ := h
 subst e1
 cases r with
 | cons r rr =>
  rw [hs]
  refine assignInOrder_cons (thn (h1 pins s σ H _ _ _ I r h) fun _ s1 ⟨σ1, H1, I1, q1⟩ => ?_)
  exact h2 pins s1 σ1 H1 _ _ Q I1 rr q1
def ZgF (K : PySem.W.Frag) (n : Nat) (t : TGs) : TG := fun v σ H Q => ∃ a xs, v = .ref a ∧ SqT K H a xs ∧ xs.length = n ∧ t xs σ H Q
theorem Zb6 {es : List Expr} {k : Nat} {t : TGs} {n : Nat} (hc : X.calm = true) (h : PGs X es t)
  (hn : autoParam ((assignEach es X.env).length = n) zz3._auto_1) (hst : autoParam ((assignEach es X.env).findIdx? (·.1) = none) zz3._auto_1) : PG X (.Tuple es k pos) (ZgF X.K n t) := by
 intro pins s σ H v u Q I r hw
 obtain ⟨a, xs, e1, hq, hl, hw⟩ := hw
 subst e1
 cases r
 obtain ⟨its, rv, ht, hz⟩ := I.tuple hq
 refine assign_Tuple_tuple (I.ok.hd hc) ht (by simp [hn, ← hl, rv.length]) hst fun h' hx => ?_
 have I1 : Inv X pins σ H { s with heap := h' } := I.kept (t' := s.toks) fun b o e => hx b o (Nat.ne_of_lt (Heap.lt_size e)) e
 exact h pins _ σ H xs _ Q I1 (by simpa using rv) hw
def Zf9 (to ti : TE) (t : Zdm) : TG := fun v σ H Q => to σ H fun o H1 => ti σ H1 fun i H2 => t o i v H2 fun H3 => Q σ H3
theorem ZaW {o i : Expr} {to ti : TE} {t : Zdm} (ho : PE X o to) (hi : PE X i ti) (hs : ZfJ X t)
  (ha : ∀ v, assign (.Subscript o i pos) X.env v = (do
   let ov ← holding [v] (eval o X.env)
   let iv ← holding [v, ov] (eval i X.env)
   standAt pos
   holding [v, ov, iv] (setItem ov iv v)
   release [v, ov, iv] []) := by intro _; rfl) : PG X (.Subscript o i pos) (Zf9 to ti t) := by
 intro pins s σ H v u Q I r h
 rw [ha]
 refine wpAny_bind (wpAny_holding (thn (ho pins s σ H _ I h) fun ov s1 ⟨x, H1, I1, r1, q1⟩ => ?_))
 refine wpAny_bind (wpAny_holding (thn (hi pins s1 σ H1 _ I1 q1) fun iv s2 ⟨y, H2, I2, r2, q2⟩ => ?_))
 refine wpAny_bind (wpAny_standAt (wpAny_bind (wpAny_holding (thn (hs pins s2 σ H2 x y v ov iv u _ I2 r1 r2 r q2) fun _ s3 ⟨H3, I3, q3⟩ => ?_))))
 exact wpAny_release ⟨σ, H3, I3, q3⟩
def ZfK (te : TE) (g : TG) : TS := fun D σ H => te σ H fun x H1 => g x σ H1 D.nx
theorem ZbQ {tg e : Expr} {te : TE} {g : TG} (he : PE X e te) (hg : PG X tg g) (hs : autoParam (swapsWithSole [tg] e pos.line X.env = pure false) zz3._auto_1) (hw : autoParam (swappedStores [tg] e X.env = pure none) zz3._auto_1)
  (h1 : autoParam ((assignEach [tg] X.env).map (·.2) = [assign tg X.env]) zz3._auto_1) : PS X (.Assign [tg] e pos) (ZfK te g) := by
 intro pins s σ H D I h
 refine wpAny_Assign_stores (thn (he pins s σ H _ I h) fun v s1 ⟨x, H1, I1, r1, q1⟩ => ?_) hs hw
 rw [h1]
 exact thn (hg pins s1 σ H1 x v _ I1 r1 q1) fun _ s2 q => q
theorem Zbo {i : Nat} {x : Str} {e : Expr} {te : TE} {pos' : Pos} (hN : X.N.Nodup) (hi : X.N[i]? = some x) (hx : Loc X.env.scope x) (he : PE X e te) (hs : autoParam (swapsWith e (some (.Name x pos')) pos.line X.env = pure false) zz3._auto_1) (hf : autoParam (X.fn x = true ∨ X.env.scope.names.lookup x = some .local) zz0._auto_1) :
  PS X (.Assign [.Name x pos'] e pos) (ZfK te (Zce i)) := by
 intro pins s σ H D I h
 refine wpAny_Assign_Name (thn (he pins s σ H _ I h) fun v s1 ⟨y, H1, I1, r1, q1⟩ => ?_) hs
 exact CJ I1 hN hi hx r1 (fun s2 I2 => ⟨_, H1, I2, q1⟩) hf
def ZgP (i j : Nat) (ta : TA) : TS := fun D σ H => ta σ H fun vs H1 => ∃ v w, vs = [v, w] ∧ D.nx ((σ.set i (some v)).set j (some w)) H1
def Zg6 (i : Nat) (te : TE) (ti : TIp) : TS := fun D σ H => ∃ x, σ[i]? = some (some x) ∧ te σ H fun y H1 => ti x y H1 fun z H2 => D.nx (σ.set i (some z)) H2
def Zf1 (to ti te : TE) (tget : V → V → Hp → VK → Prop) (tip : TIp) (tset : Zdm) : TS := fun D σ H => to σ H fun o H1 => ti σ H1 fun i H2 => tget o i H2 fun x H3 => te σ H3 fun y H4 => tip x y H4 fun z H5 => tset o i z H5 fun H6 => D.nx σ H6
def ZgX (X : Cx) (t : V → V → Hp → VK → Prop) : Prop :=
 ∀ (pins : List (Addr × Obj)) (s : Shared) (σ : St) (H : Hp) (o i : V) (ov iv : Value) (Q : VK), Inv X pins σ H s → RelV o ov → RelV i iv → t o i H Q →
  wpAny (model X.prog X.w) X.A (getItem ov iv) (EP X pins σ Q) X.xe s
def ipI (f : Int → Int → Int) : TIp := fun x y H Q => ∃ i j, x = .int i ∧ y = .int j ∧ Q (.int (f i j)) H
end
section
variable {X : Cx} {pos : Pos}
def Zb0 (c : TT) (tb : TS) : TS := fun D σ H => ∃ W : Nat → St → Hp → Prop, (∃ m, W m σ H) ∧ ∀ m σ H, W m σ H →
 c σ H fun b H1 => if b = true then ∃ N : St → Hp → Prop, (∀ σ' H', N σ' H' → ∃ m', m' < m ∧ W m' σ' H') ∧ tb { D with nx := N, ct := N, bk := D.nx } σ H1 else D.nx σ H1
theorem Nr {c : Expr} {body : List Stmt} {tc : TT} {tb : TS} (hp : PassesOwn (model X.prog X.w) X.A X.env X.xe) (hc : PT X c tc) (hb : PSs X body tb) : PS X (.While c body [] pos) (Zb0 tc tb) := by
 intro pins s σ H D I h
 obtain ⟨W, ⟨m0, w0⟩, turn⟩ := h
 refine wpAny_While (codeAny_whileLoop (fun n s' => ∃ σ' H', Inv X pins σ' H' s' ∧ W n σ' H') ?_ m0 ⟨σ, H, I, w0⟩)
 rintro n s1 ⟨σ1, H1, I1, w1⟩
 refine wpAny_passesOwn hp (thn (hc pins s1 σ1 H1 _ I1 (turn n σ1 H1 w1)) fun b s2 ⟨H2, I2, q2⟩ => ?_)
 cases b with
 | true =>
  obtain ⟨N, hN, q2⟩ := q2
  rw [if_pos rfl]
  refine wpAny_passesOwn hp (thn (hb pins s2 σ1 H2 _ I2 q2) fun f s3 q3 => ?_)
  cases f with
  | next =>
   obtain ⟨σ3, H3, I3, n3⟩ := q3
   obtain ⟨m', hm, w3⟩ := hN σ3 H3 n3
   exact ⟨m', hm, σ3, H3, I3, w3⟩
  | cont =>
   obtain ⟨σ3, H3, I3, n3⟩ := q3
   obtain ⟨m', hm, w3⟩ := hN σ3 H3 n3
   exact ⟨m', hm, σ3, H3, I3, w3⟩
  | brk => exact q3
  | ret v => exact q3
 | false =>
  rw [if_neg Bool.false_ne_true]
  exact wpAny_execs_nil ⟨σ1, H2, I2, q2⟩
end
structure It where
 go : Nat → Hp → Prop
 yld : Nat → Hp → V → Hp → Prop
 stop : Nat → Hp → Prop
def UQ (X : Cx) (pins : List (Addr × Obj)) (H : Hp) (b : Addr) : Prop :=
 H b = none ∧ b ≠ X.env.locals ∧ b ∉ X.fs ∧ (b ∈ X.ex ∨ X.s₀.heap.objs.size ≤ b) ∧ (∀ x c, X.env.cells.lookup x = some c → c ≠ b) ∧ ∀ p ∈ X.pn ++ pins, p.1 ≠ b
theorem Inv.S3 {X : Cx} {pins : List (Addr × Obj)} {σ : St} {H H' : Hp} {s : Shared} {b : Addr} (I : Inv X pins σ H s) (hb : s.heap.objs.size ≤ b) (hn : H' b = none) : UQ X pins H' b := by
 refine ⟨hn, Nat.ne_of_gt (Nat.lt_of_lt_of_le I.lt hb), I.Zgl hb, .inr (Nat.le_trans I.sz hb), fun x c e z => ?_, fun p hp z => ?_⟩
 ·obtain ⟨v, q⟩ := I.cell x c e
  exact absurd (Nat.lt_of_lt_of_le q.lt (by rw [z]; exact hb)) (Nat.lt_irrefl _)
 ·exact absurd (Nat.lt_of_lt_of_le (Heap.lt_size (I.pin p hp).1) (by rw [z]; exact hb)) (Nat.lt_irrefl _)
structure Turn (P : Program) (w : World) (K : PySem.W.Frag) (tg : Expr) (J : It) (fp : List Addr) (it : Addr) (tn : Nat → Heap → Prop) : Prop where
 mem : it ∈ fp
 obj : ∀ i h, tn i h → ∀ b ∈ fp, ∃ o, h.get? b = some o ∧ ∀ v, o.data ≠ .cell v
 keep : ∀ i h h', tn i h → (∀ b ∈ fp, ∀ o, h.get? b = some o → h'.get? b = some o) → tn i h'
 item : ∀ (X : Cx), X.prog = P → X.w = w → X.K = K → X.calm = true → ∀ (i : Nat) (pins : List (Addr × Obj)) (s : Shared) (σ : St) (H : Hp) (E : Value → Shared → Prop), Inv X pins σ H s → (∀ b ∈ fp, UQ X pins H b) → tn i s.heap → J.go i H →
  wpAny (model P w) X.A (pyNext (.ref it)) (fun r s1 => ∃ u, r = some u ∧
   wpAny (model P w) X.A (letOwnedTupleGo tg (.ref it) u) (fun _ s2 => ∃ x H', Inv X pins σ H' s2 ∧ RelV x u ∧ J.yld i H x H' ∧ tn (i + 1) s2.heap ∧ ∀ b ∈ fp, H' b = none) E s1) E s
 done : ∀ (X : Cx), X.prog = P → X.w = w → X.K = K → X.calm = true → ∀ (i : Nat) (pins : List (Addr × Obj)) (s : Shared) (σ : St) (H : Hp) (E : Value → Shared → Prop), Inv X pins σ H s → (∀ b ∈ fp, UQ X pins H b) → tn i s.heap → J.stop i H →
  wpAny (model P w) X.A (pyNext (.ref it)) (fun r s1 => r = none ∧ Inv X pins σ H s1) E s
 self : ∀ (A : Around) (i : Nat) (s : Shared) (Q : Value → Shared → Prop) (E : Value → Shared → Prop), tn i s.heap → Q (.ref it) s → wpAny (model P w) A (pyIter (.ref it)) Q E s
abbrev TI := St → Hp → (It → Hp → Prop) → Prop
def PIE (X : Cx) (pins : List (Addr × Obj)) (σ : St) (tg : Expr) (R : It → Hp → Prop) (itv : Value) (s2 : Shared) : Prop :=
 ∃ (it : Addr) (fp : List Addr) (tn : Nat → Heap → Prop) (J : It) (H' : Hp), itv = .ref it ∧ Inv X pins σ H' s2 ∧ Turn X.prog X.w X.K tg J fp it tn ∧ tn 0 s2.heap ∧ (∀ b ∈ fp, UQ X pins H' b) ∧ R J H'
def PI (X : Cx) (tg iter : Expr) (wi : TI) : Prop :=
 ∀ (pins : List (Addr × Obj)) (s : Shared) (σ : St) (H : Hp) (R : It → Hp → Prop), Inv X pins σ H s → wi σ H R →
  wpAny (model X.prog X.w) X.A (eval iter X.env) (fun v s1 => wpAny (model X.prog X.w) X.A (pyIter v) (PIE X pins σ tg R) X.xe s1) X.xe s
theorem R4 {M : Model} {A : Around} {E : Value → Shared → Prop} {s : Shared} {tg : Expr} {it : Addr} {u : Value} {o : Obj} {n : String} {vs : Array Value} {Q : Unit → Shared → Prop} (ho : s.heap.get? it = some o) (hc : o.cls = .type n) (hd : o.data = .fields vs)
    (hn : ["enumerate", "zip", "dict_itemiterator", "dict_reverseitemiterator", "odict_iterator", "itertools.zip_longest", "itertools.pairwise"].contains n = false) (hQ : Q () s) : wpAny M A (letOwnedTupleGo tg (.ref it) u) Q E s := by
  unfold letOwnedTupleGo
  cases tg <;> first
    | exact wpAny_pure hQ
    | (cases u <;> first
        | exact wpAny_pure hQ
        | (refine wpAny_bind (wpAny_load ho ?_)
           rw [hc, hd]
           show wpAny M A (if (["enumerate", "zip", "dict_itemiterator", "dict_reverseitemiterator", "odict_iterator", "itertools.zip_longest", "itertools.pairwise"].contains n && vs[0]? == some (rawInt _)) = true then _ else _) Q E s
           rw [if_neg (by intro h; rw [hn, Bool.false_and] at h; cases h)]
           exact wpAny_pure hQ))
noncomputable def Itl (K : PySem.W.Frag) (a : Addr) : It :=
 ⟨fun i H => ∃ xs x, SqL K H a xs ∧ xs[i]? = some x, fun i H x H' => H' = H ∧ ∀ xs, SqL K H a xs → xs[i]? = some x, fun i H => ∃ xs, SqL K H a xs ∧ xs.length ≤ i⟩
noncomputable def Itt (K : PySem.W.Frag) (a : Addr) : It :=
 ⟨fun i H => ∃ xs x, SqT K H a xs ∧ xs[i]? = some x, fun i H x H' => H' = H ∧ ∀ xs, SqT K H a xs → xs[i]? = some x, fun i H => ∃ xs, SqT K H a xs ∧ xs.length ≤ i⟩
noncomputable def Itr (lo : Int) (n : Nat) : It := ⟨fun i _ => i < n, fun i H x H' => H' = H ∧ x = .int (lo + i), fun i _ => n ≤ i⟩
theorem GO {P : Program} {w : World} {K : PySem.W.Frag} {tg : Expr} (a it : Addr) : Turn P w K tg (Itl K a) [it] it (fun i h => h.IsListIter it a i) where
 mem := by simp
 obj := fun i h st b hb => by
  have e : b = it := by simpa using hb
  subst e
  obtain ⟨o, e, c, d⟩ := st
  exact ⟨o, e, fun v z => by rw [d] at z; cases z⟩
 keep := fun i h h' st k => st.at fun o e => k it (by simp) o e
 item := by
  intro X hP hw hK hc i pins s σ H E I hf st hg
  subst hP hw hK
  obtain ⟨xs, x, hq, hx⟩ := hg
  obtain ⟨its, rv, p, hz⟩ := I.list hq
  obtain ⟨u, hu, ru⟩ := rv.get hx
  obtain ⟨f0, f1, f2, f3, f4, f5⟩ := hf it (by simp)
  refine wpAny_pyNext_list_item st p.isList (x := u) (by simpa using hu) fun h' st' sb => ?_
  have I1 : Inv X pins σ H { s with heap := h' } := I.turned (t' := s.toks) (fun b o hb e => (sb.2 b hb).trans e) f0 f1 f3 f4 f5
  obtain ⟨o, e, c, d⟩ := id st'
  exact ⟨u, rfl, R4 (s := { s with heap := h' }) e c d (by decide) ⟨x, H, I1, ru, ⟨rfl, fun ys hy => by rw [I.CG hy hq]; exact hx⟩, st', fun b hb => (hf b hb).1⟩⟩
 done := by
  intro X hP hw hK hc i pins s σ H E I hf st hg
  subst hP hw hK
  obtain ⟨xs, hq, hx⟩ := hg
  obtain ⟨its, rv, p, hz⟩ := I.list hq
  obtain ⟨f0, f1, f2, f3, f4, f5⟩ := hf it (by simp)
  have hl := rv.length
  exact wpAny_pyNext_list_end (I.ok.hd hc) st p.isList (by simp; omega) fun h' eb => ⟨rfl, I.turned (t' := s.toks) (fun b o hb e => eb b o hb e) f0 f1 f3 f4 f5⟩
 self := fun _ _ _ _ _ st h => wpAny_pyIter_listiter st h
theorem Wr {P : Program} {w : World} {K : PySem.W.Frag} {tg : Expr} (a it : Addr) : Turn P w K tg (Itt K a) [it] it (fun i h => h.IsTupleIter it a i) where
 mem := by simp
 obj := fun i h st b hb => by
  have e : b = it := by simpa using hb
  subst e
  obtain ⟨o, e, c, d⟩ := st
  exact ⟨o, e, fun v z => by rw [d] at z; cases z⟩
 keep := fun i h h' st k => st.at fun o e => k it (by simp) o e
 item := by
  intro X hP hw hK hc i pins s σ H E I hf st hg
  subst hP hw hK
  obtain ⟨xs, x, hq, hx⟩ := hg
  obtain ⟨its, rv, p, hz⟩ := I.tuple hq
  obtain ⟨u, hu, ru⟩ := rv.get hx
  obtain ⟨f0, f1, f2, f3, f4, f5⟩ := hf it (by simp)
  refine wpAny_pyNext_tuple_item st (show s.heap.IsTuple a its.toArray from p) (x := u) (by simpa using hu) fun h' st' sb => ?_
  have I1 : Inv X pins σ H { s with heap := h' } := I.turned (t' := s.toks) (fun b o hb e => (sb.2 b hb).trans e) f0 f1 f3 f4 f5
  obtain ⟨o, e, c, d⟩ := id st'
  exact ⟨u, rfl, R4 (s := { s with heap := h' }) e c d (by decide) ⟨x, H, I1, ru, ⟨rfl, fun ys hy => by rw [I.GN hy hq]; exact hx⟩, st', fun b hb => (hf b hb).1⟩⟩
 done := by
  intro X hP hw hK hc i pins s σ H E I hf st hg
  subst hP hw hK
  obtain ⟨xs, hq, hx⟩ := hg
  obtain ⟨its, rv, p, hz⟩ := I.tuple hq
  obtain ⟨f0, f1, f2, f3, f4, f5⟩ := hf it (by simp)
  have hl := rv.length
  exact wpAny_pyNext_tuple_end (I.ok.hd hc) st (show s.heap.IsTuple a its.toArray from p) (by simp; omega) fun h' eb => ⟨rfl, I.turned (t' := s.toks) (fun b o hb e => eb b o hb e) f0 f1 f3 f4 f5⟩
 self := fun _ _ _ _ _ st h => wpAny_pyIter_tupleiter st h
theorem DQ {P : Program} {w : World} {K : PySem.W.Frag} {tg : Expr} (it : Addr) (lo : Int) (n : Nat) : Turn P w K tg (Itr lo n) [it] it (fun i h => IsRangeIter h it (lo + (i : Nat) * 1) ((n : Int) - (i : Nat)) 1) where
 mem := by simp
 obj := fun i h st b hb => by
  have e : b = it := by simpa using hb
  subst e
  exact ⟨_, st, fun v z => by
   have z' : Data.fields _ = Data.cell v := z
   cases z'⟩
 keep := fun i h h' st k => k it (by simp) _ st
 item := by
  intro X hP hw hK hc i pins s σ H E I hf st hg
  subst hP hw hK
  obtain ⟨f0, f1, f2, f3, f4, f5⟩ := hf it (by simp)
  have W := Walks.range (prog := X.prog) (w := X.w) (I.ok.hd hc) it lo 1 n
  refine W.item i s _ _ hg st fun v h' tk hv st' kk => ?_
  obtain ⟨t, rfl⟩ := hv
  have I1 : Inv X pins σ H { s with heap := h', toks := tk } := I.turned (fun b o hb e => kk b o (by simpa using hb) e) f0 f1 f3 f4 f5
  refine ⟨_, rfl, R4 (s := { s with heap := h', toks := tk }) (n := "range_iterator") st' rfl rfl (by decide) ⟨.int (lo + i), H, I1, ⟨t, ?_⟩, ⟨rfl, rfl⟩, st', fun b hb => (hf b hb).1⟩⟩
  rw [Int.mul_one]
 done := by
  intro X hP hw hK hc i pins s σ H E I hf st hg
  subst hP hw hK
  obtain ⟨f0, f1, f2, f3, f4, f5⟩ := hf it (by simp)
  exact wpAny_pyNext_range_end (I.ok.hd hc) st (by have : n ≤ i := hg; omega) fun h' eb => ⟨rfl, I.turned (t' := s.toks) (fun b o hb e => eb b o hb e) f0 f1 f3 f4 f5⟩
 self := fun _ _ _ _ _ st h => wpAny_pyIter_rangeiter st h
end L2
namespace L2
open PySem PySem.Spec PyProof.Rows
section
variable {X : Cx} {tg : Expr}
def ZeA (K : PySem.W.Frag) (tl : TE) : TI := fun σ H R => tl σ H fun x H1 => ∃ a, x = .ref a ∧ (∃ xs, SqL K H1 a xs) ∧ R (Itl K a) H1
def ZfR (K : PySem.W.Frag) (tl : TE) : TI := fun σ H R => tl σ H fun x H1 => ∃ a, x = .ref a ∧ (∃ xs, SqT K H1 a xs) ∧ R (Itt K a) H1
theorem FX {l : Expr} {tl : TE} (hl : PE X l tl) : PI X tg l (ZeA X.K tl) := by
 intro pins s σ H R I h
 refine thn (hl pins s σ H _ I h) fun v s1 ⟨x, H1, I1, r1, q1⟩ => ?_
 obtain ⟨a, e, ⟨xs, hq⟩, q⟩ := q1
 subst e
 cases r1
 obtain ⟨its, rv, p, hz⟩ := I1.list hq
 refine wpAny_pyIter_list p.isList ?_
 refine ⟨s1.heap.objs.size, [s1.heap.objs.size], _, _, H1, rfl, I1.kept (t' := s1.toks) fun b o e => Heap.get?_push_of_some _ e, GO a _, ⟨_, Heap.get?_push_size _ rfl, rfl, rfl⟩, fun b hb => ?_, q⟩
 have e : b = s1.heap.objs.size := by simpa using hb
 subst e
 exact I1.S3 (Nat.le_refl _) (I1.hok.fresh (Nat.le_refl _))
theorem Px {l : Expr} {tl : TE} (hl : PE X l tl) : PI X tg l (ZfR X.K tl) := by
 intro pins s σ H R I h
 refine thn (hl pins s σ H _ I h) fun v s1 ⟨x, H1, I1, r1, q1⟩ => ?_
 obtain ⟨a, e, ⟨xs, hq⟩, q⟩ := q1
 subst e
 cases r1
 obtain ⟨its, rv, p, hz⟩ := I1.tuple hq
 refine wpAny_pyIter_tuple (show s1.heap.IsTuple a its.toArray from p) ?_
 refine ⟨s1.heap.objs.size, [s1.heap.objs.size], _, _, H1, rfl, I1.kept (t' := s1.toks) fun b o e => Heap.get?_push_of_some _ e, Wr a _, ⟨_, Heap.get?_push_size _ rfl, rfl, rfl⟩, fun b hb => ?_, q⟩
 have e : b = s1.heap.objs.size := by simpa using hb
 subst e
 exact I1.S3 (Nat.le_refl _) (I1.hok.fresh (Nat.le_refl _))
theorem NB {pins : List (Addr × Obj)} {σ : St} {H : Hp} {s : Shared} {R : It → Hp → Prop} {E : Value → Shared → Prop} {lo hi : Int} {t u v : Tok} {tk : Nat} (I : Inv X pins σ H s) (h1 : -(2 ^ 62) ≤ lo) (h2 : lo < 2 ^ 62) (h3 : -(2 ^ 62) ≤ hi) (h4 : hi < 2 ^ 62)
  (q : R (Itr lo (hi - lo).toNat) H) : wpAny (model X.prog X.w) X.A (pyIter (.ref s.heap.objs.size)) (PIE X pins σ tg R) E { s with heap := s.heap.push { cls := .type "range", data := .fields #[.int lo t, .int hi u, .int 1 v] }, toks := tk } := by
 refine wpAny_pyIter_range (IsRange.new ..) (small_one h1 h2 h3 h4) ?_
 have I1 : Inv X pins σ H { s with heap := s.heap.push { cls := .type "range", data := .fields #[.int lo t, .int hi u, .int 1 v] }, toks := tk } := I.kept fun b o e => Heap.get?_push_of_some _ e
 refine ⟨(s.heap.push { cls := .type "range", data := .fields #[.int lo t, .int hi u, .int 1 v] }).objs.size, [(s.heap.push { cls := .type "range", data := .fields #[.int lo t, .int hi u, .int 1 v] }).objs.size], _, _, H, rfl,
  I1.kept (t' := tk) fun b o e => Heap.get?_push_of_some _ e, DQ _ lo (hi - lo).toNat, ?_, fun b hb => ?_, q⟩
 ·have e1 : lo + ((0 : Nat) : Int) * 1 = lo := by simp
  have e2 : (((hi - lo).toNat : Nat) : Int) - ((0 : Nat) : Int) = Builtin.Range.rangeSize lo hi 1 := by rw [rangeSize_one]; split <;> omega
  show IsRangeIter _ _ (lo + ((0 : Nat) : Int) * 1) ((((hi - lo).toNat : Nat) : Int) - ((0 : Nat) : Int)) 1
  rw [e1, e2]
  exact Heap.get?_push_size _ rfl
 ·have e : b = (s.heap.push { cls := .type "range", data := .fields #[.int lo t, .int hi u, .int 1 v] }).objs.size := by simpa using hb
  subst e
  exact I1.S3 (Nat.le_refl _) (I1.hok.fresh (Nat.le_refl _))
def ZdF (ta : TA) : TI := fun σ H R => ta σ H fun vs H1 => ∃ j : Int, vs = [.int j] ∧ -(2 ^ 62) ≤ j ∧ j < 2 ^ 62 ∧ R (Itr 0 j.toNat) H1
def Zgn (ta : TA) : TI := fun σ H R => ta σ H fun vs H1 => ∃ i j : Int, vs = [.int i, .int j] ∧ (-(2 ^ 62) ≤ i ∧ i < 2 ^ 62 ∧ -(2 ^ 62) ≤ j ∧ j < 2 ^ 62) ∧ R (Itr i (j - i).toNat) H1
theorem U2 {a : Expr} {ta : TA} {p pos : Pos} (hg : Gl X "range") (hm : X.mg "range" = none) (ha : PA X [a] ta) (hs : autoParam (starEach [a] X.env = [(false, eval a X.env)]) zz3._auto_1) : PI X tg (.Call (.Name "range" p) [a] [] pos) (ZdF ta) := by
 intro pins s σ H R I h
 refine Call_ (XZ I hg hm boot_range (PyProof.Rows.callWith_type1 (thn (ha pos pins s σ H _ I h) fun us s1 ⟨vs, H1, I1, r1, q1⟩ => ?_) hs rfl))
 obtain ⟨j, e, q1, q2, q⟩ := q1
 subst e
 cases r1 with
 | cons r rr =>
  cases rr
  obtain ⟨t, rfl⟩ := r
  exact call_range_1 (NB I1 (by omega) (by omega) q1 q2 (by simpa using q))
def ZfW (wi : TI) (g : TG) (tb : TS) : TS := fun D σ H => wi σ H fun J H1 => ∃ W : Nat → Nat → St → Hp → Prop, (∃ m, W 0 m σ H1) ∧ ∀ i m σ H, W i m σ H →
 (J.stop i H ∧ D.nx σ H) ∨ (J.go i H ∧ ∃ N : St → Hp → Prop, (∀ σ' H', N σ' H' → ∃ m', m' < m ∧ W (i + 1) m' σ' H') ∧ ∀ x H', J.yld i H x H' → g x σ H' fun σ2 H2 => tb { D with nx := N, ct := N, bk := D.nx } σ2 H2)
noncomputable def K6 (fp : List Addr) (h : Heap) : List (Addr × Obj) := fp.filterMap fun b => (h.get? b).map fun o => (b, o)
theorem Jr {fp : List Addr} {h : Heap} {b : Addr} {o : Obj} (hb : b ∈ fp) (e : h.get? b = some o) : (b, o) ∈ K6 fp h := List.mem_filterMap.mpr ⟨b, hb, by rw [e]; rfl⟩
theorem HZ {fp : List Addr} {h : Heap} {p : Addr × Obj} (hp : p ∈ K6 fp h) : p.1 ∈ fp ∧ h.get? p.1 = some p.2 := by
 obtain ⟨b, hb, e⟩ := List.mem_filterMap.mp hp
 cases q : h.get? b with
 | none => rw [q] at e; cases e
 | some o =>
  rw [q] at e
  have e' : (b, o) = p := Option.some.inj e
  subst e'
  exact ⟨hb, q⟩
theorem Inv.pinned {pins : List (Addr × Obj)} {σ : St} {H : Hp} {s : Shared} {fp : List Addr} (I : Inv X pins σ H s) (hf : ∀ b ∈ fp, UQ X pins H b) (ho : ∀ b ∈ fp, ∃ o, s.heap.get? b = some o ∧ ∀ v, o.data ≠ .cell v) : Inv X (pins ++ K6 fp s.heap) σ H s :=
 I.YS fun p hp => (List.mem_append.mp hp).elim (fun z => I.pin p (List.mem_append_right _ z)) fun z => by
  obtain ⟨hb, e⟩ := HZ z
  obtain ⟨f0, f1, f2, _⟩ := hf p.1 hb
  obtain ⟨o, e', d⟩ := ho p.1 hb
  rw [e] at e'; cases e'
  exact ⟨e, f0, f1, f2, d⟩
theorem Inv.WX {pins pl : List (Addr × Obj)} {σ : St} {H : Hp} {s : Shared} (I : Inv X (pins ++ pl) σ H s) : Inv X pins σ H s := I.YS fun p hp => I.pin p (List.mem_append_right _ (List.mem_append_left _ hp))
theorem Dl {iter : Expr} {body : List Stmt} {wi : TI} {g : TG} {tb : TS} {pos : Pos} (hp : PassesOwn (model X.prog X.w) X.A X.env X.xe) (hc : X.calm = true) (hi : PI X tg iter wi) (hg : PG X tg g) (hb : PSs X body tb)
  (hs : autoParam (∀ x, foldedSetIterable iter X.env x = pure x) zz2._auto_1) : PS X (.For tg iter body [] pos) (ZfW wi g tb) := by
 intro pins s σ H D I h
 refine wpAny_For (thn (hi pins s σ H _ I h) fun v s1 h1 => thn h1 fun itv s2 h2 => ?_) hs
 obtain ⟨it, fp, tn, J, H2, e, I2, T, st2, f2, W, ⟨m0, w0⟩, turn⟩ := h2
 subst e
 have stat : ∀ {H' : Hp}, (∀ b ∈ fp, H' b = none) → ∀ b ∈ fp, UQ X pins H' b := fun hn b hb => ⟨hn b hb, (f2 b hb).2⟩
 refine codeAny_forLoop_any (fun n s' => ∃ i σ' H', Inv X pins σ' H' s' ∧ tn i s'.heap ∧ (∀ b ∈ fp, H' b = none) ∧ W i n σ' H') ?_ m0 ⟨0, σ, H2, I2, st2, fun b hb => (f2 b hb).1, w0⟩
 rintro n s3 ⟨i, σ3, H3, I3, st3, fr3, w3⟩
 rcases turn i n σ3 H3 w3 with ⟨stop, qn⟩ | ⟨go, N, hN, step⟩
 ·refine wpAny_passesOwn hp (thn (T.done X rfl rfl rfl hc i pins s3 σ3 H3 X.xe I3 (stat fr3) st3 stop) fun r s4 ⟨hr, I4⟩ => ?_)
  subst hr
  exact wpAny_execs_nil ⟨σ3, H3, I4, qn⟩
 ·refine wpAny_passesOwn hp (thn (T.item X rfl rfl rfl hc i pins s3 σ3 H3 X.xe I3 (stat fr3) st3 go) fun r s4 ⟨u, hr, h4⟩ => ?_)
  subst hr
  refine wpAny_passesOwn hp (thn h4 fun _ s5 ⟨x, H5, I5, r5, y5, st5, fr5⟩ => ?_)
  have I5' := I5.pinned (stat fr5) (T.obj _ _ st5)
  refine wpAny_passesOwn hp (thn (hg _ s5 σ3 H5 x u _ I5' r5 (step x H5 y5)) fun _ s6 ⟨σ6, H6, I6, q6⟩ => ?_)
  refine wpAny_passesOwn hp (thn (hb _ s6 σ6 H6 _ I6 q6) fun f s7 q7 => ?_)
  have again : ∀ {σ7 : St} {H7 : Hp}, Inv X (pins ++ K6 fp s5.heap) σ7 H7 s7 → N σ7 H7 → ∃ m, m < n ∧ ∃ i σ' H', Inv X pins σ' H' s7 ∧ tn i s7.heap ∧ (∀ b ∈ fp, H' b = none) ∧ W i m σ' H' := fun {σ7 H7} I7 n7 => by
   obtain ⟨m', hm, w7⟩ := hN σ7 H7 n7
   refine ⟨m', hm, i + 1, σ7, H7, I7.WX, T.keep _ _ _ st5 fun b hb o e => (I7.pin (b, o) (List.mem_append_right _ (List.mem_append_right _ (Jr hb e)))).1, fun b hb => ?_, w7⟩
   obtain ⟨o, e, d⟩ := T.obj _ _ st5 b hb
   exact (I7.pin (b, o) (List.mem_append_right _ (List.mem_append_right _ (Jr hb e)))).2.1
  cases f with
  | next => obtain ⟨σ7, H7, I7, n7⟩ := q7; exact again I7 n7
  | cont => obtain ⟨σ7, H7, I7, n7⟩ := q7; exact again I7 n7
  | brk => obtain ⟨σ7, H7, I7, q7⟩ := q7; exact ⟨σ7, H7, I7.WX, q7⟩
  | ret v => obtain ⟨x7, σ7, H7, I7, r7, q7⟩ := q7; exact ⟨x7, σ7, H7, I7.WX, r7, q7⟩
end
theorem NO {K : PySem.W.Frag} {a : Addr} {xs : List V} {g : TG} {tb : TS} {D : Ends} {σ : St} {H : Hp} (Pv : Nat → St → Hp → Prop) (h0 : Pv 0 σ H) (hl : ∀ i σ H, i ≤ xs.length → Pv i σ H → SqL K H a xs)
  (hs : ∀ i x σ H, xs[i]? = some x → Pv i σ H → g x σ H fun σ2 H2 => tb { D with nx := Pv (i + 1), ct := Pv (i + 1), bk := D.nx } σ2 H2) (hd : ∀ σ H, Pv xs.length σ H → D.nx σ H) :
  ∃ W : Nat → Nat → St → Hp → Prop, (∃ m, W 0 m σ H) ∧ ∀ i m σ H, W i m σ H →
   ((Itl K a).stop i H ∧ D.nx σ H) ∨ ((Itl K a).go i H ∧ ∃ N : St → Hp → Prop, (∀ σ' H', N σ' H' → ∃ m', m' < m ∧ W (i + 1) m' σ' H') ∧ ∀ x H', (Itl K a).yld i H x H' → g x σ H' fun σ2 H2 => tb { D with nx := N, ct := N, bk := D.nx } σ2 H2) := by
 refine ⟨fun i m σ H => m = xs.length - i ∧ i ≤ xs.length ∧ Pv i σ H, ⟨xs.length, by simp, Nat.zero_le _, h0⟩, ?_⟩
 rintro i m σ H ⟨rfl, hi, p⟩
 have q := hl i σ H hi p
 by_cases hlt : i < xs.length
 ·refine .inr ⟨⟨xs, xs[i], q, by simp [hlt]⟩, Pv (i + 1), fun σ' H' p' => ⟨xs.length - (i + 1), by omega, rfl, hlt, p'⟩, fun x H' y => ?_⟩
  obtain ⟨e, y⟩ := y
  subst e
  exact hs i x σ _ (y xs q) p
 ·have e : i = xs.length := by omega
  subst e
  exact .inl ⟨⟨xs, q, Nat.le_refl _⟩, hd σ H p⟩
theorem SR {K : PySem.W.Frag} {a : Addr} {xs : List V} {g : TG} {tb : TS} {D : Ends} {σ : St} {H : Hp} (Pv : Nat → St → Hp → Prop) (h0 : Pv 0 σ H) (hl : ∀ i σ H, i ≤ xs.length → Pv i σ H → SqT K H a xs)
  (hs : ∀ i x σ H, xs[i]? = some x → Pv i σ H → g x σ H fun σ2 H2 => tb { D with nx := Pv (i + 1), ct := Pv (i + 1), bk := D.nx } σ2 H2) (hd : ∀ σ H, Pv xs.length σ H → D.nx σ H) :
  ∃ W : Nat → Nat → St → Hp → Prop, (∃ m, W 0 m σ H) ∧ ∀ i m σ H, W i m σ H →
   ((Itt K a).stop i H ∧ D.nx σ H) ∨ ((Itt K a).go i H ∧ ∃ N : St → Hp → Prop, (∀ σ' H', N σ' H' → ∃ m', m' < m ∧ W (i + 1) m' σ' H') ∧ ∀ x H', (Itt K a).yld i H x H' → g x σ H' fun σ2 H2 => tb { D with nx := N, ct := N, bk := D.nx } σ2 H2) := by
 refine ⟨fun i m σ H => m = xs.length - i ∧ i ≤ xs.length ∧ Pv i σ H, ⟨xs.length, by simp, Nat.zero_le _, h0⟩, ?_⟩
 rintro i m σ H ⟨rfl, hi, p⟩
 have q := hl i σ H hi p
 by_cases hlt : i < xs.length
 ·refine .inr ⟨⟨xs, xs[i], q, by simp [hlt]⟩, Pv (i + 1), fun σ' H' p' => ⟨xs.length - (i + 1), by omega, rfl, hlt, p'⟩, fun x H' y => ?_⟩
  obtain ⟨e, y⟩ := y
  subst e
  exact hs i x σ _ (y xs q) p
 ·have e : i = xs.length := by omega
  subst e
  exact .inl ⟨⟨xs, q, Nat.le_refl _⟩, hd σ H p⟩
theorem Lc {lo : Int} {n : Nat} {g : TG} {tb : TS} {D : Ends} {σ : St} {H : Hp} (Pv : Nat → St → Hp → Prop) (h0 : Pv 0 σ H)
  (hs : ∀ i σ H, i < n → Pv i σ H → g (.int (lo + i)) σ H fun σ2 H2 => tb { D with nx := Pv (i + 1), ct := Pv (i + 1), bk := D.nx } σ2 H2) (hd : ∀ σ H, Pv n σ H → D.nx σ H) :
  ∃ W : Nat → Nat → St → Hp → Prop, (∃ m, W 0 m σ H) ∧ ∀ i m σ H, W i m σ H →
   ((Itr lo n).stop i H ∧ D.nx σ H) ∨ ((Itr lo n).go i H ∧ ∃ N : St → Hp → Prop, (∀ σ' H', N σ' H' → ∃ m', m' < m ∧ W (i + 1) m' σ' H') ∧ ∀ x H', (Itr lo n).yld i H x H' → g x σ H' fun σ2 H2 => tb { D with nx := N, ct := N, bk := D.nx } σ2 H2) := by
 refine ⟨fun i m σ H => m = n - i ∧ i ≤ n ∧ Pv i σ H, ⟨n, by simp, Nat.zero_le _, h0⟩, ?_⟩
 rintro i m σ H ⟨rfl, hi, p⟩
 by_cases hlt : i < n
 ·refine .inr ⟨hlt, Pv (i + 1), fun σ' H' p' => ⟨n - (i + 1), by omega, rfl, hlt, p'⟩, fun x H' y => ?_⟩
  obtain ⟨e, y⟩ := y
  subst e y
  exact hs i σ _ hlt p
 ·have e : i = n := by omega
  subst e
  exact .inl ⟨Nat.le_refl _, hd σ H p⟩
end L2
namespace L2
open PySem PySem.Spec PyProof.Rows
abbrev R2 := V → V → Hp → VK → Prop
def OpR (X : Cx) (f : Value → Value → Sem Value) (r : R2) : Prop :=
 ∀ (pins : List (Addr × Obj)) (s : Shared) (σ : St) (H : Hp) (x y : V) (v u : Value) (Q : VK), Inv X pins σ H s → RelV x v → RelV y u → r x y H Q →
  wpAny (model X.prog X.w) X.A (f v u) (EP X pins σ Q) X.xe s
def UnR (X : Cx) (f : Value → Sem Value) (r : V → Hp → VK → Prop) : Prop :=
 ∀ (pins : List (Addr × Obj)) (s : Shared) (σ : St) (H : Hp) (x : V) (v : Value) (Q : VK), Inv X pins σ H s → RelV x v → r x H Q →
  wpAny (model X.prog X.w) X.A (f v) (EP X pins σ Q) X.xe s
def V1 (X : Cx) (f : Value) (r : List V → Hp → VK → Prop) : Prop :=
 ∀ (pins : List (Addr × Obj)) (s : Shared) (σ : St) (H : Hp) (xs : List V) (us : List Value) (Q : VK), Inv X pins σ H s → Vals xs us → r xs H Q →
  wpAny (model X.prog X.w) X.A (call f us) (EP X pins σ Q) X.xe s
def ZfY (X : Cx) (r : V → Hp → (Bool → Hp → Prop) → Prop) : Prop :=
 ∀ (pins : List (Addr × Obj)) (s : Shared) (σ : St) (H : Hp) (x : V) (v : Value) (Q : Bool → Hp → Prop), Inv X pins σ H s → RelV x v → r x H Q →
  wpAny (model X.prog X.w) X.A (truthy v) (TP X pins σ Q) X.xe s
def tOp (r : R2) (ta tb : TE) : TE := fun σ H Q => ta σ H fun x H1 => tb σ H1 fun y H2 => r x y H2 Q
def tUn (r : V → Hp → VK → Prop) (ta : TE) : TE := fun σ H Q => ta σ H fun x H1 => r x H1 Q
def rI (C : Int → Int → Prop) (g : Int → Int → V) : R2 := fun x y H Q => ∃ i j, x = .int i ∧ y = .int j ∧ C i j ∧ Q (g i j) H
def rI0 (g : Int → Int → V) : R2 := fun x y H Q => ∃ i j, x = .int i ∧ y = .int j ∧ Q (g i j) H
def rU (g : Int → V) : V → Hp → VK → Prop := fun x H Q => ∃ i, x = .int i ∧ Q (g i) H
section
variable {X : Cx} {a b c : Expr} {ta tb tc : TE} {pos : Pos}
theorem Zee (ha : PE X a ta) (hb : PE X b tb) {pins : List (Addr × Obj)} {s : Shared} {σ : St} {H : Hp} {R : V → V → Hp → Prop} (I : Inv X pins σ H s)
  (h : ta σ H fun x H1 => tb σ H1 fun y H2 => R x y H2) {Q : Value → Shared → Prop} {f : Value → Value → Sem Value}
  (hf : ∀ v u s2 x y H2, Inv X pins σ H2 s2 → RelV x v → RelV y u → R x y H2 → wpAny (model X.prog X.w) X.A (f v u) Q X.xe s2) :
  wpAny (model X.prog X.w) X.A (eval a X.env) (fun v s₁ => wpAny (model X.prog X.w) X.A (eval b X.env) (fun u s₂ => wpAny (model X.prog X.w) X.A (f v u) Q X.xe s₂) X.xe s₁) X.xe s := by
 refine thn (ha pins s σ H _ I h) fun v s1 ⟨x, H1, I1, r1, q1⟩ => ?_
 refine thn (hb pins s1 σ H1 _ I1 q1) fun u s2 ⟨y, H2, I2, r2, q2⟩ => ?_
 exact hf v u s2 x y H2 I2 r1 r2 q2
theorem ZeL {op : Operator} {r : R2} (ho : OpR X (binaryOp op) r) (ha : PE X a ta) (hb : PE X b tb) : PE X (.BinOp a op b pos) (tOp r ta tb) := by
 intro pins s σ H Q I h
 exact wpAny_BinOp (Zee ha hb I h fun v u s2 x y H2 I2 rx ry q => ho pins s2 σ H2 x y v u Q I2 rx ry q)
theorem Zek {op : UnaryOp} {r : V → Hp → VK → Prop} (ho : UnR X (unaryOp op) r) (ha : PE X a ta) : PE X (.UnaryOp op a pos) (tUn r ta) := by
 intro pins s σ H Q I h
 exact UnaryOp_ (thn (ha pins s σ H _ I h) fun v s1 ⟨x, H1, I1, r1, q1⟩ => ho pins s1 σ H1 x v Q I1 r1 q1)
theorem opI {f : Value → Value → Sem Value} {C : Int → Int → Prop} {g : Int → Int → Int}
  (rule : ∀ (i j : Int) (t u : Tok) (s : Shared) (Q : Value → Shared → Prop) (E : Value → Shared → Prop), C i j → Q (.int (g i j) s.toks) { s with toks := s.toks + 1 } → wpAny (model X.prog X.w) X.A (f (.int i t) (.int j u)) Q E s) :
  OpR X f (rI C fun i j => .int (g i j)) := by
 intro pins s σ H x y v u Q I rx ry h
 obtain ⟨i, j, rfl, rfl, hc, q⟩ := h
 obtain ⟨t, rfl⟩ := rx
 obtain ⟨t', rfl⟩ := ry
 exact rule i j t t' s _ _ hc ⟨.int (g i j), H, I.tok _, ⟨_, rfl⟩, q⟩
theorem ZfB {f : Value → Value → Sem Value} {g : Int → Int → Int}
  (rule : ∀ (i j : Int) (t u : Tok) (s : Shared) (Q : Value → Shared → Prop) (E : Value → Shared → Prop), Q (.int (g i j) s.toks) { s with toks := s.toks + 1 } → wpAny (model X.prog X.w) X.A (f (.int i t) (.int j u)) Q E s) :
  OpR X f (rI0 fun i j => .int (g i j)) := by
 intro pins s σ H x y v u Q I rx ry h
 obtain ⟨i, j, rfl, rfl, q⟩ := h
 obtain ⟨t, rfl⟩ := rx
 obtain ⟨t', rfl⟩ := ry
 exact rule i j t t' s _ _ ⟨.int (g i j), H, I.tok _, ⟨_, rfl⟩, q⟩
theorem Zdw {f : Value → Value → Sem Value} {g : Int → Int → Bool}
  (rule : ∀ (i j : Int) (t u : Tok) (s : Shared) (Q : Value → Shared → Prop) (E : Value → Shared → Prop), Q (.bool (g i j)) s → wpAny (model X.prog X.w) X.A (f (.int i t) (.int j u)) Q E s) :
  OpR X f (rI0 fun i j => .bl (g i j)) := by
 intro pins s σ H x y v u Q I rx ry h
 obtain ⟨i, j, rfl, rfl, q⟩ := h
 obtain ⟨t, rfl⟩ := rx
 obtain ⟨t', rfl⟩ := ry
 exact rule i j t t' s _ _ ⟨.bl (g i j), H, I, rfl, q⟩
def Zd7 (i j : Int) : Prop := 0 < j ∧ j < 1073741824
def Zgz (i j : Int) : Prop := j ≠ 0 ∧ j.natAbs < 1073741824
def Zax (i j : Int) : Prop := 0 ≤ j ∧ j ≤ 1000000 ∧ i.natAbs < 2 ^ 64
def T5 (i j : Int) : Prop := (-(2 ^ 64) < i ∧ i < 2 ^ 64) ∨ (-(2 ^ 64) < j ∧ j < 2 ^ 64)
theorem T5.ok {i j : Int} (h : T5 i j) : IntMulOk i j := by
 rcases h with ⟨h1, h2⟩ | ⟨h1, h2⟩
 ·exact .of_left (intBits_le_64 h1 h2)
 ·exact .of_right (intBits_le_64 h1 h2)
theorem ZbI : OpR X (binaryOp .Add) (rI0 fun i j => .int (i + j)) := ZfB fun _ _ _ _ _ _ _ q => add_int q
theorem Zcx : OpR X (binaryOp .Sub) (rI0 fun i j => .int (i - j)) := ZfB fun _ _ _ _ _ _ _ q => sub_int q
theorem Zau : OpR X (binaryOp .Mult) (rI T5 fun i j => .int (i * j)) := opI fun _ _ _ _ _ _ _ hc q => mul_int q hc.ok
theorem T4 : OpR X (binaryOp .FloorDiv) (rI Zd7 fun i j => .int (i / j)) := opI fun i j _ _ _ _ _ hc q => by
 have h1 : (0 : Int) < j := hc.1
 have h2 : j < 1073741824 := hc.2
 exact floordiv_int (by omega) (by rw [Int.fdiv_eq_ediv_of_nonneg i (by omega)]; exact q) (.inl (PyProof.noPylong_small (by omega)))
theorem ZcB : OpR X (binaryOp .Mod) (rI (fun _ j => 0 < j) fun i j => .int (i % j)) := opI fun i j _ _ _ _ _ hc q => by
 have h1 : (0 : Int) < j := hc
 exact mod_int' (by omega) (by rw [Int.fmod_eq_emod_of_nonneg i (by omega)]; exact q)
theorem ZcQ : OpR X (binaryOp .Pow) (rI Zax fun i j => .int (i ^ j.toNat)) := opI fun _ _ _ _ _ _ _ hc q => pow_int_small hc.1 hc.2.1 hc.2.2 q
theorem unI {f : Value → Sem Value} {g : Int → Int}
  (rule : ∀ (i : Int) (t : Tok) (s : Shared) (Q : Value → Shared → Prop) (E : Value → Shared → Prop), Q (.int (g i) s.toks) { s with toks := s.toks + 1 } → wpAny (model X.prog X.w) X.A (f (.int i t)) Q E s) :
  UnR X f (rU fun i => .int (g i)) := by
 intro pins s σ H x v Q I rx h
 obtain ⟨i, rfl, q⟩ := h
 obtain ⟨t, rfl⟩ := rx
 exact rule i t s _ _ ⟨.int (g i), H, I.tok _, ⟨_, rfl⟩, q⟩
theorem Za2 : UnR X (unaryOp .USub) (rU fun i => .int (-i)) := unI fun _ _ _ _ _ q => neg_int q
end
noncomputable def ZfF : V → V → Bool
 | .non, .non => true | .non, .int _ => true | .int _, .non => true | .non, .bl _ => true | .bl _, .non => true | .non, .str _ => true | .str _, .non => true
 | .int _, .int _ => true | .bl _, .bl _ => true | .str _, .str _ => true | .byt _, .byt _ => true
 | .int _, .str _ => true | .str _, .int _ => true | .bl _, .str _ => true | .str _, .bl _ => true
 | _, _ => false
def rEq : R2 := fun x y H Q => ZfF x y = true ∧ Q (.bl (decide (x = y))) H
def rNe : R2 := fun x y H Q => ZfF x y = true ∧ Q (.bl (!decide (x = y))) H
theorem Hl {i j : Int} : decide (V.int i = V.int j) = (i == j) := by
 rw [Bool.eq_iff_iff]
 simp
theorem Ph {i j : Bool} : decide (V.bl i = V.bl j) = (i == j) := by
 rw [Bool.eq_iff_iff]
 simp
theorem WO {i j : Str} : decide (V.str i = V.str j) = (i == j) := by
 rw [Bool.eq_iff_iff]
 simp
theorem L9 {i j : Array UInt8} : decide (V.byt i = V.byt j) = (i.toList == j.toList) := by
 rw [Bool.eq_iff_iff]
 cases i
 cases j
 simp
section
variable {X : Cx} {a b c : Expr} {ta tb tc : TE} {pos : Pos}
theorem ZT {pins : List (Addr × Obj)} {σ : St} {H : Hp} {s : Shared} {Q : VK} {k k' : Bool} (I : Inv X pins σ H s) (q : Q (.bl k) H) (e : k = k') : EP X pins σ Q (.bool k') s := by
 subst e
 exact ⟨.bl k, H, I, rfl, q⟩
theorem Zep : OpR X (compareOp .Eq) rEq := by
 intro pins s σ H x y v u Q I rx ry h
 obtain ⟨hs, q⟩ := h
 cases x with
 | non =>
  cases rx
  cases y with
  | non => cases ry; exact PySem.EqNone.eq_none_none (ZT I q (by simp))
  | bl j => cases ry; exact PySem.EqNone.eq_none_bool (ZT I q (by simp))
  | int j => obtain ⟨t', rfl⟩ := ry; exact PySem.EqNone.eq_none_int (ZT I q (by simp))
  | str j => obtain ⟨t', rfl⟩ := ry; exact PySem.EqNone.eq_none_str (ZT I q (by simp))
  | _ => exact absurd (show false = true from hs) Bool.false_ne_true
 | bl i =>
  cases rx
  cases y with
  | non => cases ry; exact PySem.EqNone.eq_bool_none (ZT I q (by simp))
  | bl j => cases ry; exact eq_bool (ZT I q Ph)
  | str j => obtain ⟨t', rfl⟩ := ry; exact PySem.EqMixed.eq_bool_str (ZT I q (by simp))
  | _ => exact absurd (show false = true from hs) Bool.false_ne_true
 | int i =>
  obtain ⟨t, rfl⟩ := rx
  cases y with
  | non => cases ry; exact PySem.EqNone.eq_int_none (ZT I q (by simp))
  | int j => obtain ⟨t', rfl⟩ := ry; exact eq_int (ZT I q Hl)
  | str j => obtain ⟨t', rfl⟩ := ry; exact PySem.EqMixed.eq_int_str (ZT I q (by simp))
  | _ => exact absurd (show false = true from hs) Bool.false_ne_true
 | str i =>
  obtain ⟨t, rfl⟩ := rx
  cases y with
  | non => cases ry; exact PySem.EqNone.eq_str_none (ZT I q (by simp))
  | bl j => cases ry; exact PySem.EqMixed.eq_str_bool (ZT I q (by simp))
  | int j => obtain ⟨t', rfl⟩ := ry; exact PySem.EqMixed.eq_str_int (ZT I q (by simp))
  | str j => obtain ⟨t', rfl⟩ := ry; exact eq_str (ZT I q WO)
  | _ => exact absurd (show false = true from hs) Bool.false_ne_true
 | byt i =>
  obtain ⟨t, rfl⟩ := rx
  cases y with
  | byt j => obtain ⟨t', rfl⟩ := ry; exact PySem.W.eq_bytes (ZT I q L9)
  | _ => exact absurd (show false = true from hs) Bool.false_ne_true
 | _ => cases y <;> exact absurd (show false = true from hs) Bool.false_ne_true
theorem ZeF : OpR X (compareOp .NotEq) rNe := by
 intro pins s σ H x y v u Q I rx ry h
 obtain ⟨hs, q⟩ := h
 cases x with
 | non =>
  cases rx
  cases y with
  | non => cases ry; exact PySem.EqNone.ne_none_none (ZT I q (by simp))
  | bl j => cases ry; exact PySem.EqNone.ne_none_bool (ZT I q (by simp))
  | int j => obtain ⟨t', rfl⟩ := ry; exact PySem.EqNone.ne_none_int (ZT I q (by simp))
  | str j => obtain ⟨t', rfl⟩ := ry; exact PySem.EqNone.ne_none_str (ZT I q (by simp))
  | _ => exact absurd (show false = true from hs) Bool.false_ne_true
 | bl i =>
  cases rx
  cases y with
  | non => cases ry; exact PySem.EqNone.ne_bool_none (ZT I q (by simp))
  | bl j => cases ry; exact ne_bool (ZT I q (congrArg not Ph))
  | str j => obtain ⟨t', rfl⟩ := ry; exact PySem.EqMixed.ne_bool_str (ZT I q (by simp))
  | _ => exact absurd (show false = true from hs) Bool.false_ne_true
 | int i =>
  obtain ⟨t, rfl⟩ := rx
  cases y with
  | non => cases ry; exact PySem.EqNone.ne_int_none (ZT I q (by simp))
  | int j => obtain ⟨t', rfl⟩ := ry; exact ne_int (ZT I q (congrArg not Hl))
  | str j => obtain ⟨t', rfl⟩ := ry; exact PySem.EqMixed.ne_int_str (ZT I q (by simp))
  | _ => exact absurd (show false = true from hs) Bool.false_ne_true
 | str i =>
  obtain ⟨t, rfl⟩ := rx
  cases y with
  | non => cases ry; exact PySem.EqNone.ne_str_none (ZT I q (by simp))
  | bl j => cases ry; exact PySem.EqMixed.ne_str_bool (ZT I q (by simp))
  | int j => obtain ⟨t', rfl⟩ := ry; exact PySem.EqMixed.ne_str_int (ZT I q (by simp))
  | str j => obtain ⟨t', rfl⟩ := ry; exact ne_str (ZT I q (congrArg not WO))
  | _ => exact absurd (show false = true from hs) Bool.false_ne_true
 | byt i =>
  obtain ⟨t, rfl⟩ := rx
  cases y with
  | byt j => obtain ⟨t', rfl⟩ := ry; exact PySem.W.ne_bytes (ZT I q (congrArg not L9))
  | _ => exact absurd (show false = true from hs) Bool.false_ne_true
 | _ => cases y <;> exact absurd (show false = true from hs) Bool.false_ne_true
theorem Zex : OpR X (compareOp .Lt) (rI0 fun i j => .bl (decide (i < j))) := Zdw fun _ _ _ _ _ _ _ q => lt_int q
theorem ZdZ : OpR X (compareOp .LtE) (rI0 fun i j => .bl (decide (i ≤ j))) := Zdw fun _ _ _ _ _ _ _ q => le_int q
theorem ZdI : OpR X (compareOp .Gt) (rI0 fun i j => .bl (decide (j < i))) := Zdw fun _ _ _ _ _ _ _ q => gt_int q
theorem Zer : OpR X (compareOp .GtE) (rI0 fun i j => .bl (decide (j ≤ i))) := Zdw fun _ _ _ _ _ _ _ q => ge_int q
theorem Zcg : OpR X (compareOp .Is) (fun x y H Q => y = .non ∧ Q (.bl (decide (x = .non))) H) := by
 intro pins s σ H x y v u Q I rx ry h
 obtain ⟨rfl, q⟩ := h
 cases ry
 refine is_none_gen (ZT I q ?_)
 cases x <;> first
  | (cases rx; rfl)
  | (obtain ⟨t, rfl⟩ := rx; rfl)
noncomputable def isObj : HO → Bool
 | .lst _ => true
 | .ins _ _ _ => true
 | _ => false
theorem Rc (b : Expr) {op : CmpOp} (h : autoParam (op ≠ .In) zz1._auto_1) (h2 : autoParam (op ≠ .NotIn) zz1._auto_1) : behindInMarks op b = false := by
 have e1 : (op == CmpOp.In) = false := by cases op <;> first | rfl | exact absurd rfl h
 have e2 : (op == CmpOp.NotIn) = false := by cases op <;> first | rfl | exact absurd rfl h2
 cases b <;> simp [behindInMarks, e1, e2]
theorem S6 {op : CmpOp} {r : R2} (ho : OpR X (compareOp op) r) (ha : PE X a ta) (hb : PE X b tb) (hm : behindInMarks op b = false) : PE X (.Compare a [op] [b] pos) (tOp r ta tb) := by
 intro pins s σ H Q I h
 exact wpAny_Compare1 (Zee ha hb I h fun v u s2 x y H2 I2 rx ry q => ho pins s2 σ H2 x y v u Q I2 rx ry q) hm
def Zde (t : TE) : TT := fun σ H Q => t σ H fun x H' => ∃ k, x = .bl k ∧ Q k H'
theorem Sg {op : CmpOp} {r : R2} (ho : OpR X (compareOp op) r) (ha : PE X a ta) (hb : PE X b tb) (hm : behindInMarks op b = false) : PT X (.Compare a [op] [b] pos) (Zde (tOp r ta tb)) := by
 intro pins s σ H Q I h
 refine wpAny_isTrue_Compare1 (thn (ha pins s σ H _ I h) fun v s1 ⟨x, H1, I1, r1, q1⟩ => thn (hb pins s1 σ H1 _ I1 q1) fun u s2 ⟨y, H2, I2, r2, q2⟩ =>
  thn (ho pins s2 σ H2 x y v u _ I2 r1 r2 q2) fun c s3 ⟨z, H3, I3, r3, k, e, q3⟩ => ?_) hm
 subst e
 cases r3
 exact wpAny_truthy_bool ⟨H3, I3, q3⟩
def Fm (r r' : R2) (ta tb tc : TE) : TE := fun σ H Q => ta σ H fun x H1 => tb σ H1 fun y H2 => r x y H2 fun z H3 => ∃ k, z = .bl k ∧
 (if k = true then tc σ H3 fun w' H4 => r' y w' H4 Q else Q (.bl false) H3)
theorem Om {op op' : CmpOp} {r r' : R2} (ho : OpR X (compareOp op) r) (ho' : OpR X (compareOp op') r') (ha : PE X a ta) (hb : PE X b tb) (hc : PE X c tc)
  (hm : autoParam (lastMarks [op, op'] [b, c] = false) zz4._auto_1) : PE X (.Compare a [op, op'] [b, c] pos) (Fm r r' ta tb tc) := by
 intro pins s σ H Q I h
 refine Compare_chain (thn (ha pins s σ H _ I h) fun v s1 ⟨x, H1, I1, r1, q1⟩ => chain_link (thn (hb pins s1 σ H1 _ I1 q1) fun u s2 ⟨y, H2, I2, r2, q2⟩ =>
  thn (ho pins s2 σ H2 x y v u _ I2 r1 r2 q2) fun d s3 ⟨z, H3, I3, r3, k, e, q3⟩ => ?_)) hm
 subst e
 cases r3
 refine wpAny_truthy_bool ?_
 cases k with
 | false => exact ite_ff ⟨.bl false, H3, I3, rfl, q3⟩
 | true => exact ite_tt (chain_last (thn (hc pins s3 σ H3 _ I3 q3) fun w' s4 ⟨z', H4, I4, r4, q4⟩ => ho' pins s4 σ H4 y z' u w' Q I4 r2 r4 q4))
theorem OL {op op' : CmpOp} {r r' : R2} (ho : OpR X (compareOp op) r) (ho' : OpR X (compareOp op') r') (ha : PE X a ta) (hb : PE X b tb) (hc : PE X c tc)
  (hm : autoParam (lastMarks [op, op'] [b, c] = false) zz4._auto_1) : PT X (.Compare a [op, op'] [b, c] pos) (Zde (Fm r r' ta tb tc)) := by
 intro pins s σ H Q I h
 refine isTrue_chain (thn (ha pins s σ H _ I h) fun v s1 ⟨x, H1, I1, r1, q1⟩ => test_link (thn (hb pins s1 σ H1 _ I1 q1) fun u s2 ⟨y, H2, I2, r2, q2⟩ =>
  thn (ho pins s2 σ H2 x y v u _ I2 r1 r2 q2) fun d s3 ⟨z, H3, I3, r3, k, e, q3⟩ => ?_)) hm
 subst e
 cases r3
 refine wpAny_truthy_bool ?_
 cases k with
 | false =>
  obtain ⟨k', e', q'⟩ := q3
  cases e'
  exact ite_ff ⟨H3, I3, q'⟩
 | true =>
  refine ite_tt (test_last (thn (hc pins s3 σ H3 _ I3 q3) fun w' s4 ⟨z', H4, I4, r4, q4⟩ => thn (ho' pins s4 σ H4 y z' u w' _ I4 r2 r4 q4) fun d' s5 ⟨z2, H5, I5, r5, k2, e2, q5⟩ => ?_))
  subst e2
  cases r5
  exact wpAny_truthy_bool ⟨H5, I5, q5⟩
def ZeY (K : PySem.W.Frag) (x : V) (H : Hp) (k : Bool) : Prop :=
 match x with
 | .non => k = false
 | .bl b => k = b
 | .int i => k = (i != 0)
 | .str y => y.length ≤ sizeLine ∧ k = ((y.length : Int) != 0)
 | .byt y => y.size ≤ sizeLine ∧ k = ((y.size : Int) != 0)
 | .ref p => (∃ xs, SqL K H p xs ∧ k = !xs.isEmpty) ∨ (∃ xs, SqT K H p xs ∧ k = !xs.isEmpty) ∨ ∃ kvs, H p = some (.dK kvs) ∧ k = !kvs.isEmpty
 | _ => False
theorem DP {κ : Type} {kvs : List (κ × V)} {vs : List (κ × Value)} (r : KV kvs vs) : (!vs.isEmpty) = !kvs.isEmpty := by
 cases r <;> rfl
theorem Wy {xs : List V} {its : List Value} (r : Vals xs its) : (!its.toArray.isEmpty) = !xs.isEmpty := by
 cases r <;> simp
theorem Wq : (sizeLine : Nat) < 2 ^ 63 := by rw [sizeLine_eq]; decide
theorem Zcd : ZfY X (fun x H Q => ∃ k, ZeY X.K x H k ∧ Q k H) := by
 intro pins s σ H x v Q I rx h
 obtain ⟨k, e, q⟩ := h
 have hl := Wq
 have hs : sizeLine = 16777216 := sizeLine_eq
 cases x with
 | non =>
  cases rx
  have e' : k = false := e
  subst e'
  exact truthy_none ⟨H, I, q⟩
 | bl b =>
  cases rx
  have e' : k = b := e
  subst e'
  exact wpAny_truthy_bool ⟨H, I, q⟩
 | int i =>
  obtain ⟨t, rfl⟩ := rx
  have e' : k = (i != 0) := e
  subst e'
  exact PySem.P.truthy_int ⟨H, I, q⟩
 | str y =>
  obtain ⟨t, rfl⟩ := rx
  obtain ⟨hy, e'⟩ : y.length ≤ sizeLine ∧ k = ((y.length : Int) != 0) := e
  subst e'
  exact PySem.P.truthy_str (by omega) ⟨H, I.tok _, q⟩
 | byt y =>
  obtain ⟨t, rfl⟩ := rx
  obtain ⟨hy, e'⟩ : y.size ≤ sizeLine ∧ k = ((y.size : Int) != 0) := e
  subst e'
  exact PySem.W.truthy_bytes (by omega) ⟨H, I.tok _, q⟩
 | ref p =>
  cases rx
  have e' : (∃ xs, SqL X.K H p xs ∧ k = !xs.isEmpty) ∨ (∃ xs, SqT X.K H p xs ∧ k = !xs.isEmpty) ∨ ∃ kvs, H p = some (.dK kvs) ∧ k = !kvs.isEmpty := e
  rcases e' with ⟨xs, hx, e'⟩ | ⟨xs, hx, e'⟩ | ⟨kvs, hx, e'⟩
  ·subst e'
   obtain ⟨its, r, pl, hz⟩ := I.list hx
   have hlen := r.length
   exact wpAny_truthy_list pl.isList (by simp only [List.size_toArray]; omega) ⟨H, I.tok _, by rw [Wy r]; exact q⟩
  ·subst e'
   obtain ⟨its, r, pl, hz⟩ := I.tuple hx
   have hlen := r.length
   exact truthy_tuple pl (by simp only [List.size_toArray]; omega) ⟨H, I.tok _, by rw [Wy r]; exact q⟩
  ·subst e'
   obtain ⟨hz, hS, vs, r, m⟩ : kvs.length ≤ sizeLine ∧ (p == sysModules) = false ∧ ∃ vs, KV kvs vs ∧ s.heap.DictOf (XR X.prog X.w) p vs := I.hok p _ hx
   have hlen : kvs.length = vs.length := Paired.length r
   exact wpAny_truthy_dict hS m (by omega) ⟨H, I.tok _, by rw [DP r]; exact q⟩
 | _ => exact (show False from e).elim
theorem OB (ha : PE X a ta) (he : ∀ whole, isTrue a X.env whole = (do let v ← whole; standAt a.pos; holding [v] (truthy v))) :
  PT X a (fun σ H Q => ta σ H fun x H' => ∃ k, ZeY X.K x H' k ∧ Q k H') := by
 intro pins s σ H Q I h
 exact isTrue_plain (thn (ha pins s σ H _ I h) fun v s1 ⟨x, H1, I1, r1, q1⟩ => Zcd pins s1 σ H1 x v Q I1 r1 q1) (he _)
def Zdz (b : Expr) : Prop := ∀ o i, subscripted b false o i = operate [o, i] (getItem o i)
theorem vals1 {x : V} {us : List Value} (r : Vals [x] us) : ∃ u, us = [u] ∧ RelV x u := by
 cases r with
 | cons r1 r2 => cases r2; exact ⟨_, rfl, r1⟩
theorem vals2 {x y : V} {us : List Value} (r : Vals [x, y] us) : ∃ u w', us = [u, w'] ∧ RelV x u ∧ RelV y w' := by
 cases r with
 | cons r1 r2 =>
  cases r2 with
  | cons r3 r4 => cases r4; exact ⟨_, _, rfl, r1, r3⟩
theorem Pc : V1 X (.builtin "abs") (fun xs H Q => ∃ i, xs = [.int i] ∧ Q (.int (if i < 0 then -i else i)) H) := by
 intro pins s σ H xs us Q I r h
 obtain ⟨i, rfl, q⟩ := h
 obtain ⟨u, rfl, t, rfl⟩ := vals1 r
 exact call_abs_int fun u tk => ⟨.int (if i < 0 then -i else i), H, I.tok _, ⟨_, rfl⟩, q⟩
theorem Fd (hc : X.calm = true) : V1 X (.builtin "max") (fun xs H Q => ∃ i j, xs = [.int i, .int j] ∧ Q (.int (if j > i then j else i)) H) := by
 intro pins s σ H xs us Q I r h
 obtain ⟨i, j, rfl, q⟩ := h
 obtain ⟨u, w', rfl, ⟨t, rfl⟩, ⟨t', rfl⟩⟩ := vals2 r
 refine max_two_ints (I.ok.hd hc) fun h' tk k => ⟨_, H, I.kept k, ?_, q⟩
 by_cases hj : j > i
 ·rw [if_pos hj, if_pos hj]; exact ⟨_, rfl⟩
 ·rw [if_neg hj, if_neg hj]; exact ⟨_, rfl⟩
theorem LW (hc : X.calm = true) : V1 X (.builtin "min") (fun xs H Q => ∃ i j, xs = [.int i, .int j] ∧ Q (.int (if j < i then j else i)) H) := by
 intro pins s σ H xs us Q I r h
 obtain ⟨i, j, rfl, q⟩ := h
 obtain ⟨u, w', rfl, ⟨t, rfl⟩, ⟨t', rfl⟩⟩ := vals2 r
 refine min_two_ints (I.ok.hd hc) fun h' tk k => ⟨_, H, I.kept k, ?_, q⟩
 by_cases hj : j < i
 ·rw [if_pos hj, if_pos hj]; exact ⟨_, rfl⟩
 ·rw [if_neg hj, if_neg hj]; exact ⟨_, rfl⟩
def Zg8 (K : PySem.W.Frag) (x : V) (H : Hp) (n : Nat) : Prop :=
 match x with
 | .str y => y.length ≤ sizeLine ∧ n = y.length
 | .byt y => y.size ≤ sizeLine ∧ n = y.size
 | .ref p => (∃ xs, SqL K H p xs ∧ n = xs.length) ∨ ∃ xs, SqT K H p xs ∧ n = xs.length
 | _ => False
end
end L2
namespace L2
open PySem PySem.Spec PyProof.Rows
structure Zfp (h : Heap) (x dx C : Addr) (mA : Str → Option Value) : Prop where
 obj : h.get? x = some (PySem.W.instObj C dx)
 ns : h.Ns1 dx mA
 ne : dx ≠ x
section
variable {prog : Program} {w : World} {A : Around} {E : Value → Shared → Prop} {s : Shared} {K : PySem.W.Frag} {x dx C f : Addr} {mA : Str → Option Value} {name : Str} {v : Value}
end
noncomputable def Zeq (f : Str) (v : V) : List (Str × V) → List (Str × V)
 | [] => [(f, v)]
 | (g, x) :: r => if g = f then (g, v) :: r else (g, x) :: Zeq f v r
section
variable {P : Program} {w : World} {H H' : Hp} {h h' : Heap} {a C dx : Addr} {fs fs' : List (Str × V)}
end
structure Cls (K : PySem.W.Frag) (C : Addr) : Prop where
 pg : PySem.W.plainGet K C Str.empty = true
 hd : PySem.W.hasDictIn K C = true
 po : PySem.W.plainOver K C = true
 sa : PySem.W.findIn K (.ref C) "__setattr__" = some (some (.builtin "object.__setattr__"))
theorem Cls.get {K : PySem.W.Frag} {C : Addr} (c : Cls K C) (f : Str) : PySem.W.plainGet K C f = true := c.pg
def LP (K : PySem.W.Frag) (C : Addr) (f : Str) : Prop := PySem.W.findIn K (.ref C) f = some none
structure Con (K : PySem.W.Frag) (C : Addr) (f : Str) (v : V) (u : Value) : Prop where
 at_ : PySem.W.findIn K (.ref C) f = some (some u)
 rel : RelV v u
 get : PySem.W.specialIn K u "__get__" = some none
 cp : PySem.W.copiedNames.contains f = false
structure Meth (K : PySem.W.Frag) (C : Addr) (m : Str) (f : Addr) : Prop where
 at_ : PySem.W.findIn K (.ref C) m = some (some (.ref f))
 fn : PySem.W.isFn K (.ref f) = true
 kp : PySem.W.keepIn K (.ref f) = true
section
variable {X : Cx} {pins : List (Addr × Obj)} {σ : St} {H : Hp} {s : Shared} {a C dx : Addr} {fs : List (Str × V)} {f : Str} {v : V} {A : Around} {E : Value → Shared → Prop}
theorem Inv.made (I : Inv X pins σ H s) : Inv X pins σ (upd (upd H s.heap.objs.size (.own (s.heap.objs.size + 1))) (s.heap.objs.size + 1) (.ins C s.heap.objs.size []))
  { s with heap := (s.heap.push PySem.W.emptyDict).push (PySem.W.instObj C s.heap.objs.size) } := by
 have e1 : (s.heap.push PySem.W.emptyDict).get? s.heap.objs.size = some PySem.W.emptyDict := Heap.get?_push_size s.heap rfl
 have e2 : ((s.heap.push PySem.W.emptyDict).push (PySem.W.instObj C s.heap.objs.size)).get? (s.heap.objs.size + 1) = some (PySem.W.instObj C s.heap.objs.size) := by
  have := Heap.get?_push_size (s.heap.push PySem.W.emptyDict) (o := PySem.W.instObj C s.heap.objs.size) rfl
  rwa [Heap.size_push] at this
 have e3 : (s.heap.push PySem.W.emptyDict).Ns s.heap.objs.size (fun _ => none) := ⟨PySem.W.emptyDict, #[], _, e1, rfl, (fun e he => absurd he (by simp)), fun _ => rfl⟩
 have I1 := I.laid (a := s.heap.objs.size) (o := .own (s.heap.objs.size + 1)) (h' := s.heap.push PySem.W.emptyDict) (t' := s.toks) (fun b u q => Heap.get?_push_of_some _ q) (Nat.le_refl _) ⟨_, e1⟩
 refine I1.laid (a := s.heap.objs.size + 1) (o := .ins C s.heap.objs.size []) (t' := s.toks) (fun b u q => Heap.get?_push_of_some _ q) (Nat.le_of_eq (Heap.size_push _ _)) ?_
 have ne : s.heap.objs.size ≠ s.heap.objs.size + 1 := Nat.ne_of_lt (Nat.lt_succ_self _)
 refine ⟨by rw [ZL ne, JK], Nat.zero_le _, ne, e2, fun _ => none, (Heap.Ns1.of_empty e3).at fun o q => Heap.get?_push_of_some _ q, fun _ => True.intro, fun y hy => absurd rfl hy⟩
end
def Zg5 (K : PySem.W.Frag) (ta : TE) (f : Str) : TE := fun σ H Q => ta σ H fun x H1 => ∃ a C dx fs v, x = .ref a ∧ H1 a = some (.ins C dx fs) ∧ Cls K C ∧ LP K C f ∧ fs.lookup f = some v ∧ Q v H1
def Zg1 (K : PySem.W.Frag) (ta : TE) (f : Str) : TE := fun σ H Q => ta σ H fun x H1 => ∃ a C dx fs v u, x = .ref a ∧ H1 a = some (.ins C dx fs) ∧ Cls K C ∧ Con K C f v u ∧ fs.lookup f = none ∧ Q v H1
def ZgU (K : PySem.W.Frag) (ta tv : TE) (f : Str) : TS := fun D σ H => tv σ H fun y H1 => ta σ H1 fun x H2 => ∃ a C dx fs, x = .ref a ∧ H2 a = some (.ins C dx fs) ∧ Cls K C ∧ LP K C f ∧ fs.length < 1000 ∧
 D.nx σ (upd H2 a (.ins C dx (Zeq f y fs)))
def ZgN (X : Cx) (op : Operator) (rd : V → V → Hp → VK → Prop) : Prop :=
 ∀ (pins : List (Addr × Obj)) (s : Shared) (σ : St) (H : Hp) (x y : V) (u v : Value) (Q : VK), Inv X pins σ H s → RelV x u → RelV y v → rd x y H Q → wpAny (model X.prog X.w) X.A (inplaceOp op u v) (EP X pins σ Q) X.xe s
def ZeB (K : PySem.W.Frag) (ta tv : TE) (rd : V → V → Hp → VK → Prop) (f : Str) : TS := fun D σ H => ta σ H fun x H1 => ∃ a C dx fs v, x = .ref a ∧ H1 a = some (.ins C dx fs) ∧ Cls K C ∧ LP K C f ∧ fs.lookup f = some v ∧
 tv σ H1 fun y H2 => rd v y H2 fun z H3 => ∃ dx' fs', H3 a = some (.ins C dx' fs') ∧ fs'.length < 1000 ∧ D.nx σ (upd H3 a (.ins C dx' (Zeq f z fs')))
section
variable {X : Cx} {o e value : Expr} {f : Str} {pos pos' tpos : Pos} {ta tv : TE}
def ZgV : V → V → Hp → VK → Prop := fun x y H Q => ∃ i j, x = .int i ∧ y = .int j ∧ Q (.int (i + j)) H
def ZgS : V → V → Hp → VK → Prop := fun x y H Q => ∃ i j, x = .int i ∧ y = .int j ∧ Q (.int (i - j)) H
end
section
variable {X : Cx} {pins : List (Addr × Obj)} {σ : St} {H : Hp} {s : Shared} {A : Around} {E : Value → Shared → Prop} {Q : Value → Shared → Prop} {c : Value} {b : Bool}
inductive E2 (K : PySem.W.Frag) (H : Hp) : V → Value → Prop where
 | non : E2 K H .non (.type "NoneType")
 | bl (x : Bool) : E2 K H (.bl x) (.type "bool")
 | int (i : Int) : E2 K H (.int i) (.type "int")
 | str (x : Str) : E2 K H (.str x) (.type "str")
 | flt (x : UInt64) : E2 K H (.flt x) (.type "float")
 | lst {a : Addr} {xs : List V} (e : H a = some (.lst xs)) : E2 K H (.ref a) (.type "list")
 | frz {a : Addr} {o : Obj} {xs : List V} (e : H a = some (.frz o (.lst xs))) : E2 K H (.ref a) (.type "list")
 | tup {a : Addr} {xs : List V} (e : H a = some (.tup xs)) : E2 K H (.ref a) (.type "tuple")
 | dK {a : Addr} {kvs : List (Key × V)} (e : H a = some (.dK kvs)) : E2 K H (.ref a) (.type "dict")
 | dT {a : Addr} {kvs : List (List Key × V)} (e : H a = some (.dT kvs)) : E2 K H (.ref a) (.type "dict")
 | ins {a C dx : Addr} {fs : List (Str × V)} (e : H a = some (.ins C dx fs)) (cl : Cls K C) (ha : PySem.W.findIn K (.ref C) "__class__" = some (some (.builtin "object.__class__")))
   (hn : PySem.W.specialIn K (.builtin "object.__class__") "__get__" = some (some (.builtin "getset_descriptor.__get__"))) (htk : PySem.W.takesIn K (.builtin "object.__class__") = some true)
   (hm : PySem.W.mroIn K C (.type "object") = some true) : E2 K H (.ref a) (.ref C)
end
end L2
namespace L2
open PySem PySem.Spec PyProof.Rows
structure Xw (k : Nat) (A : Around) : Prop where
 hd : A.handled = none
 dp : A.depth + 3 * k + 5 < recursionLimit
 un : A.units + 16 * k + 200 < cLine
 gd : A.guards = some []
theorem Xw.mono {j k : Nat} {A : Around} (r : Xw k A) (h : j ≤ k) : Xw j A := ⟨r.hd, by have := r.dp; omega, by have := r.un; omega, r.gd⟩
theorem Xw.deeper {k : Nat} {A : Around} (r : Xw (k + 1) A) (env : Env) : Xw k (A.deeper env) :=
 ⟨r.hd, by have := r.dp; show A.depth + 1 + 3 * k + 5 < _; omega, by have := r.un; show A.units + 3 + 16 * k + 200 < _; omega, r.gd⟩
theorem Xw.depth {k : Nat} {A : Around} (r : Xw k A) : A.depth < recursionLimit := by have := r.dp; omega
theorem Xw.units {k : Nat} {A : Around} (r : Xw k A) : A.units + 64 < cLine := by have := r.un; omega
def Zgv : TA := fun _ H Q => Q [] H
def ZdW (ta : TE) (tr : TA) : TA := fun σ H Q => ta σ H fun x H1 => tr σ H1 fun xs H2 => Q (x :: xs) H2
section
variable {X : Cx} {e : Expr} {es : List Expr} {te : TE} {t : TA} {pos : Pos}
theorem Ct : PA X [] Zgv := fun _ _ _ _ H Q I h => Calls.spliced_nil ⟨[], H, I, .nil, h⟩
theorem UI (ha : PE X e te) (hr : PA X es t) (hs : autoParam (starEach (e :: es) X.env = (false, eval e X.env) :: starEach es X.env) zz3._auto_1) : PA X (e :: es) (ZdW te t) := by
 intro pos pins s σ H Q I h
 rw [hs]
 show wpAny _ _ (spliced ((false, eval e X.env) :: backTo pos (starEach es X.env))) _ _ s
 refine Calls.spliced_cons (thn (ha pins s σ H _ I h) fun u s1 ⟨x, H1, I1, r1, q1⟩ => ?_)
 exact thn (hr pos pins s1 σ H1 _ I1 q1) fun us s2 ⟨xs, H2, I2, r2, q2⟩ => ⟨x :: xs, H2, I2, .cons r1 r2, q2⟩
def Zgg (t : TA) : TE := fun σ H Q => t σ H fun xs H1 => xs.length ≤ sizeLine ∧ ∀ p, H1 p = none → Q (.ref p) (upd H1 p (.tup xs))
def ZfP (t : TA) : TE := fun σ H Q => t σ H fun xs H1 => xs.length ≤ sizeLine ∧ ∀ p, H1 p = none → Q (.ref p) (upd H1 p (.lst xs))
theorem ZbS {x1} (h : PA X es t) : PE X (.Tuple es x1 pos) (Zgg t) := by
 intro pins s σ H Q I hq
 refine wpAny_Tuple_spliced (thn (h pos pins s σ H _ I hq) fun us s1 ⟨xs, H1, I1, r, z, q⟩ => ⟨by rw [← r.length]; exact z, ?_⟩)
 have hf : H1 s1.heap.objs.size = none := I1.hok.fresh (Nat.le_refl _)
 refine ⟨.ref s1.heap.objs.size, upd H1 s1.heap.objs.size (.tup xs), I1.laid (t' := s1.toks) (fun b u e => Heap.get?_push_of_some _ e) (Nat.le_refl _) ?_, rfl, q _ hf⟩
 exact ⟨z, us, r, ⟨_, Heap.get?_push_size _ rfl, rfl, _, rfl⟩⟩
theorem PB (h : PA X es t) : PE X (.List es pos) (ZfP t) := by
 intro pins s σ H Q I hq
 refine wpAny_List_spliced (thn (h pos pins s σ H _ I hq) fun us s1 ⟨xs, H1, I1, r, z, q⟩ => ⟨by rw [← r.length]; exact z, ?_⟩)
 have hf : H1 s1.heap.objs.size = none := I1.hok.fresh (Nat.le_refl _)
 refine ⟨.ref s1.heap.objs.size, upd H1 s1.heap.objs.size (.lst xs), I1.laid (t' := s1.toks) (fun b u e => Heap.get?_push_of_some _ e) (Nat.le_refl _) ?_, rfl, q _ hf⟩
 exact ⟨z, us, 0, r, Heap.get?_push_size _ rfl⟩
end
abbrev Sp := List V → Hp → VK → XK → Prop
abbrev CXT := List Env → Hp → Shared → XK → Value → Shared → Prop
structure Zdn (P : Program) (w : World) (K : PySem.W.Frag) (mg : Str → Option Value) (base : Heap) (A : Around) (outer : List Env) (s : Shared) (H : Hp) : Prop where
 frames : A.frames = some outer
 mod : Mod K mg base
 bs : ∀ b o, base.get? b = some o → s.heap.get? b = some o ∧ H b = none
 bsz : base.objs.size ≤ s.heap.objs.size
 Lx : s.heap.FunFrames base outer
 frf : ∀ b ∈ frs outer, H b = none
 hok : HOk P w H s.heap
 bare : AllBare s.gens
def CE (outer : List Env) (P : Program) (w : World) (H : Hp) (s : Shared) (Q : VK) (u : Value) (s' : Shared) : Prop :=
 ∃ v H', s'.os = s.os ∧ AllBare s'.gens ∧ Un (frs outer) [] H H' s.heap s'.heap ∧ HOk P w H' s'.heap ∧ RelV v u ∧ Q v H'
def CR (CX : CXT) (outer : List Env) (P : Program) (w : World) (H : Hp) (s : Shared) (Q : VK) (E : XK) (r : Result) (s' : Shared) : Prop :=
 match r with
 | .ok (.ret u) => CE outer P w H s Q u s'
 | .ok _ => False
 | .error e => CX outer H s E e s'
structure ZD (P : Program) (w : World) (K : PySem.W.Frag) (mg : Str → Option Value) (base : Heap) (CX : CXT) (k : Nat) (f : Addr) (fd : FuncData) (ps : List Str) (sp : Sp) : Prop where
 len : ∀ vs H Q E, sp vs H Q E → vs.length = ps.length
 run : ∀ (A : Around) (outer : List Env) (s : Shared) (H : Hp) (args : Args) (us : List Value) (vs : List V) (Q : VK) (E : XK), Xw k A → Zdn P w K mg base A outer s H → BindsTo s fd args (ps.zip us) → Vals vs us → sp vs H Q E →
  codeAny (model P w) A (.call (.ref f) args) (CR CX outer P w H s Q E) s
theorem ZD.imp {P : Program} {w : World} {K : PySem.W.Frag} {mg : Str → Option Value} {base : Heap} {CX : CXT} {k : Nat} {f : Addr} {fd : FuncData} {ps : List Str} {sp sp' : Sp} (F : ZD P w K mg base CX k f fd ps sp)
  (h : ∀ vs H Q E, sp' vs H Q E → sp vs H Q E) : ZD P w K mg base CX k f fd ps sp' :=
 ⟨fun vs H Q E q => F.len vs H Q E (h _ _ _ _ q), fun A outer s H args us vs Q E hr he hb hv hs => F.run A outer s H args us vs Q E hr he hb hv (h _ _ _ _ hs)⟩
section
variable {X : Cx} {pins : List (Addr × Obj)} {σ : St} {H : Hp} {s s' : Shared}
theorem Inv.Zgm (I : Inv X pins σ H s) : Zdn X.prog X.w X.K X.mg X.base X.A X.stack s H :=
 ⟨I.ok.frames, I.ok.mod, I.bs, Nat.le_trans I.ok.bsz I.sz, I.stack, I.G8, I.hok, I.bare⟩
theorem Inv.after {Q : VK} {u : Value} (I : Inv X pins σ H s) (h : CE X.stack X.prog X.w H s Q u s') : EP X pins σ Q u s' := by
 obtain ⟨v, H', os, bare, un, hok, r, q⟩ := h
 obtain ⟨hh, g, d, t, os'⟩ := s'
 obtain rfl : os' = s.os := os
 exact ⟨v, H', I.call (h' := hh) (g' := g) (d' := d) (t' := t) (ch := []) un hok bare (fun b z => absurd z (by simp)), r, q⟩
end
def Zeg (sp : Sp) (dvs : List V) (E : XK) (t : TA) : TE := fun σ H Q => t σ H fun vs H1 => sp (vs ++ dvs) H1 Q E
def ZfQ (C : Addr) (m : Str) (sp : Sp) (dvs : List V) (E : XK) (ta : TE) (t : TA) : TE := fun σ H Q => ta σ H fun x H1 => ∃ a dx fs, x = .ref a ∧ H1 a = some (.ins C dx fs) ∧ fs.lookup m = none ∧
 t σ H1 fun vs H2 => sp (x :: (vs ++ dvs)) H2 Q E
def ZfN (C : Addr) (sp : Sp) (dvs : List V) (E : XK) (t : TA) : TE := fun σ H Q => t σ H fun vs H1 => ∀ x dx, H1 x = none → H1 dx = none → dx ≠ x →
 sp (.ref x :: (vs ++ dvs)) (upd (upd H1 dx (.own x)) x (.ins C dx [])) (fun v H2 => v = .non ∧ Q (.ref x) H2) E
def Binds (K : PySem.W.Frag) (fd : FuncData) (ps : List Str) (ds : List Value) : Prop :=
 ∀ (s : Shared) (us : List Value), K.In s.heap → (us ++ ds).length = ps.length → BindsTo s fd ⟨us, []⟩ (ps.zip (us ++ ds))
theorem Binds.all {K : PySem.W.Frag} {fd : FuncData} {ps : List Str} (h : ∀ us : List Value, us.length = ps.length → bindArgs fd ⟨us, []⟩ = pure (ps.zip us)) : Binds K fd ps [] := fun s us _ hl => by
 rw [List.append_nil] at hl ⊢
 exact .of_eq (h us hl)
def Passes (CX : CXT) (X : Cx) (E : XK) : Prop := ∀ (pins : List (Addr × Obj)) (σ : St) (H : Hp) (s : Shared) (e : Value) (s' : Shared), Inv X pins σ H s → CX X.stack H s E e s' → X.xe e s'
section
variable {X : Cx} {CX : CXT} {k : Nat} {f C : Addr} {fd : FuncData} {ps : List Str} {sp : Sp} {dvs : List V} {ds : List Value} {E : XK} {x m : Str} {p pos apos : Pos} {e o : Expr} {es : List Expr} {ta : TE} {t : TA}
theorem Zak {pins : List (Addr × Obj)} {σ : St} {H : Hp} {s : Shared} {Q : VK} {us : List Value} {vs : List V} (F : ZD X.prog X.w X.K X.mg X.base CX k f fd ps sp) (hr : Xw k X.A) (hb : Binds X.K fd ps ds) (hd : Vals dvs ds) (hx : Passes CX X E)
  (I : Inv X pins σ H s) (r : Vals vs us) (h : sp (vs ++ dvs) H Q E) : wpAny (model X.prog X.w) X.A (call (.ref f) us) (EP X pins σ Q) X.xe s := by
 have r2 : Vals (vs ++ dvs) (us ++ ds) := r.append hd
 have hl : (us ++ ds).length = ps.length := by rw [← r2.length]; exact F.len _ _ _ _ h
 refine wpAny_call (codeAny_mono (F.run X.A X.stack s H ⟨us, []⟩ (us ++ ds) (vs ++ dvs) Q E hr I.Zgm (hb s us I.kIn hl) r2 h) fun r s' hq => ?_)
 cases r with
 | error e => exact hx pins σ H s e s' I hq
 | ok fl =>
  cases fl with
  | ret u => exact I.after hq
  | next => exact False.elim hq
  | brk => exact False.elim hq
  | cont => exact False.elim hq
theorem Rr (F : ZD X.prog X.w X.K X.mg X.base CX k f fd ps sp) (hr : Xw k X.A) (hg : Gl X x) (hm : X.mg x = some (.ref f)) (hk : PySem.W.keepIn X.K (.ref f) = true) (hb : Binds X.K fd ps ds) (hd : Vals dvs ds) (hx : Passes CX X E)
  (ha : PA X (e :: es) t) (hdb : autoParam ((x == ("__debug__" : Str)) = false) zz1._auto_1) (he : autoParam (starEach (e :: es) X.env = (false, eval e X.env) :: starEach es X.env) zz3._auto_1) (hpl : autoParam ((backTo pos (starEach es X.env)).any (·.1) = false) zz3._auto_1) :
  PE X (.Call (.Name x p) (e :: es) [] pos) (Zeg sp dvs E t) := by
 intro pins s σ H Q I h
 refine wpAny_Call_Name_kw (S1 I hg hm ?_ hdb)
 refine PySem.W.callWith_K (h₀ := X.base) I.ok.mod.kin hk (thn (ha pos pins s σ H _ I h) fun us s1 ⟨vs, H1, I1, r, q⟩ => ⟨I1.kIn, ?_⟩) he hpl
 exact Zak F hr hb hd hx I1 r q
structure Mk (K : PySem.W.Frag) (C f : Addr) : Prop where
 makes : PySem.W.makesIn K C = true
 init : PySem.W.findIn K (.ref C) "__init__" = some (some (.ref f))
 fn : PySem.W.isFn K (.ref f) = true
 kp : PySem.W.keepIn K (.ref C) = true
end
def PK (X : Cx) (kws : List Keyword) (t : TA) : Prop :=
 ∀ (pos : Pos) (pins : List (Addr × Obj)) (s : Shared) (σ : St) (H : Hp) (Q : List V → Hp → Prop), Inv X pins σ H s → t σ H Q → wpAny (model X.prog X.w) X.A (evalAll ((backToKw pos (keywordEach kws X.env)).map (·.2))) (AP X pins σ Q) X.xe s
section
variable {X : Cx} {CX : CXT} {k : Nat} {f C : Addr} {fd : FuncData} {ps ks : List Str} {sp : Sp} {E : XK} {x m : Str} {p pos apos kpos : Pos} {e o : Expr} {es : List Expr} {kws : List Keyword} {te ta : TE} {t tk : TA} {nm : Option Str}
structure ZfC (K : PySem.W.Frag) (fd : FuncData) (ps ks : List Str) (g : List Value → List Value → List Value) (gV : List V → List V → List V) : Prop where
 to : ∀ (s : Shared) (us ws : List Value), K.In s.heap → (g us ws).length = ps.length → BindsTo s fd ⟨us, ks.zip ws⟩ (ps.zip (g us ws))
 rel : ∀ {vs : List V} {us : List Value} {zs : List V} {ws : List Value}, Vals vs us → Vals zs ws → Vals (gV vs zs) (g us ws)
def Zfw (sp : Sp) (gV : List V → List V → List V) (E : XK) (t tk : TA) : TE := fun σ H Q => t σ H fun vs H1 => tk σ H1 fun zs H2 => sp (gV vs zs) H2 Q E
variable {g : List Value → List Value → List Value} {gV : List V → List V → List V}
end
structure Zr (N P : List Str) (sc : Scope) : Prop where
 kind : sc.kind = .function
 co : sc.isCoroutine = false
 gen : sc.isGenerator = false
 nd : N.Nodup
 pre : N.take P.length = P
 par : ∀ x ∈ P, sc.names.lookup x = some .local ∨ sc.names.lookup x = some .cell
 nofree : ∀ y ∈ sc.names, y.2 ≠ .free
theorem US {kindOf : Str → Option NameKind} {x : Str} : ∀ {binds : List (Str × Value)} {m : Str → Option Value}, (∀ v, (x, v) ∉ binds) → bindL kindOf binds m x = m x
 | [], _, _ => rfl
 | (n, v) :: r, m, h => by
  unfold bindL
  rw [US fun w hw => h w (List.mem_cons_of_mem _ hw)]
  split
  ·have : x ≠ n := by rintro rfl; exact h v List.mem_cons_self
   simp [this]
  ·rfl
theorem U3 {kindOf : Str → Option NameKind} {x : Str} : ∀ {binds : List (Str × Value)} {m : Str → Option Value}, (∀ v, (x, v) ∉ binds) → bindC kindOf binds m x = m x
 | [], _, _ => rfl
 | (n, v) :: r, m, h => by
  unfold bindC
  rw [U3 fun w hw => h w (List.mem_cons_of_mem _ hw)]
  split
  ·rfl
  ·have : x ≠ n := by rintro rfl; exact h v List.mem_cons_self
   simp [this]
theorem GY {kindOf : Str → Option NameKind} {x : Str} {v : Value} : ∀ {P : List Str} {vs : List Value} {i : Nat} {m : Str → Option Value}, P.Nodup → P[i]? = some x → vs[i]? = some v → kindOf x = some .local →
  bindL kindOf (P.zip vs) m x = some v
 | [], _, _, _, _, h, _, _ => by simp at h
 | _ :: _, [], _, _, _, _, h, _ => by simp at h
 | p :: P, w :: vs, 0, m, nd, h1, h2, hk => by
  simp at h1 h2; subst h1; subst h2
  show bindL kindOf ((p, w) :: P.zip vs) m p = _
  unfold bindL
  rw [US fun v hv => (List.nodup_cons.mp nd).1 (List.of_mem_zip hv).1, if_pos hk]
  simp
 | p :: P, w :: vs, i + 1, m, nd, h1, h2, hk => by
  show bindL kindOf ((p, w) :: P.zip vs) m x = _
  unfold bindL
  exact GY (i := i) (List.nodup_cons.mp nd).2 (by simpa using h1) (by simpa using h2) hk
theorem UY {kindOf : Str → Option NameKind} {x : Str} {v : Value} : ∀ {P : List Str} {vs : List Value} {i : Nat} {m : Str → Option Value}, P.Nodup → P[i]? = some x → vs[i]? = some v → kindOf x ≠ some .local →
  bindC kindOf (P.zip vs) m x = some v
 | [], _, _, _, _, h, _, _ => by simp at h
 | _ :: _, [], _, _, _, _, h, _ => by simp at h
 | p :: P, w :: vs, 0, m, nd, h1, h2, hk => by
  simp at h1 h2; subst h1; subst h2
  show bindC kindOf ((p, w) :: P.zip vs) m p = _
  unfold bindC
  rw [U3 fun v hv => (List.nodup_cons.mp nd).1 (List.of_mem_zip hv).1, if_neg hk]
  simp
 | p :: P, w :: vs, i + 1, m, nd, h1, h2, hk => by
  show bindC kindOf ((p, w) :: P.zip vs) m x = _
  unfold bindC
  exact UY (i := i) (List.nodup_cons.mp nd).2 (by simpa using h1) (by simpa using h2) hk
noncomputable def start (N : List Str) (vs : List V) : St := vs.map some ++ List.replicate (N.length - vs.length) none
noncomputable def PM (CX : CXT) (P : Program) (w : World) (K : PySem.W.Frag) (mg : Str → Option Value) (base : Heap) (N : List Str) (qual : Str) (scope : Scope) (f : Addr) (cd : Value) (A : Around) (outer : List Env) (s : Shared) (H : Hp) (E : XK) : Cx where
 prog := P
 w := w
 K := K
 mg := mg
 base := base
 A := A.deeper (envOfC qual scope s.heap.objs.size f cd)
 N := N
 s₀ := s
 H₀ := H
 env := envOfC qual scope s.heap.objs.size f cd
 outer := outer
 stack := envOfC qual scope s.heap.objs.size f cd :: outer
 ex := []
 calm := true
 fn := fun _ => true
 pn := []
 xe := fun e s' => wpAny (model P w) (A.deeper (envOfC qual scope s.heap.objs.size f cd)) (leaving (envOfC qual scope s.heap.objs.size f cd) e) (fun _ s'' => CX outer H s E e s'') (fun e' s'' => CX outer H s E e' s'') s'
theorem Jk {sc : Scope} {n : Nat} {x : Str} (h : sc.names.lookup x = some .cell) : ∃ c, (cellsFrom n sc.names []).lookup x = some c := by
 have q := PySem.W.cellsFrom_some sc.names n [] (.inl h)
 exact Option.isSome_iff_exists.mp q
theorem Hx {CX : CXT} {P : Program} {w : World} {K : PySem.W.Frag} {mg : Str → Option Value} {base : Heap} {N ps : List Str} {qual : Str} {scope : Scope} {f : Addr} {cd : Value} {A : Around} {outer : List Env} {s s1 : Shared} {H : Hp} {E : XK} {us : List Value} {vs : List V}
  (S : Zr N ps scope) (hd : A.handled = none) (e0 : Zdn P w K mg base A outer s H) (hl : vs.length = ps.length) (r : Vals vs us)
  (x : InCallC s s.heap.objs.size (bindL (envOfC qual scope s.heap.objs.size f cd).kindOf (ps.zip us) fun _ => none) (cellsFrom (s.heap.objs.size + 1) scope.names []) (bindC (envOfC qual scope s.heap.objs.size f cd).kindOf (ps.zip us) fun _ => none) s1) :
  Inv (PM CX P w K mg base N qual scope f cd A outer s H E) [] (start N vs) H s1 := by
 have hpl : ps.length ≤ N.length := by have := congrArg List.length S.pre; rw [List.length_take] at this; omega
 obtain ⟨h1, tk, rfl, hk⟩ := x.done
 have noA : ∀ b : Addr, b ∉ (PM CX P w K mg base N qual scope f cd A outer s H E).ex := fun b z => absurd (show b ∈ ([] : List Addr) from z) (by simp)
 refine ⟨⟨e0.mod, S.kind, rfl, rfl, Nat.le_refl _, fun y z c h1 h2 => ?_, fun y hy => ?_, fun y c _ h => ?_, fun _ => hd, Around.frames_deeper e0.frames, .inr ⟨rfl, rfl⟩, fun b z => absurd z (noA b), e0.bs, e0.bsz, fun b _ _ => noA b, fun b z => absurd z (noA b), e0.Lx, e0.frf⟩,
  rfl, e0.bare, Un.kept hk, ⟨_, x.toInCall.ns, fun i y v h1 h2 h3 => ?_⟩, fun y c h => ⟨_, x.cell y c h⟩, e0.hok.fresh (Nat.le_refl _), fun y c h => ?_, fun p hp => absurd (show p ∈ ([] : List (Addr × Obj)) from hp) (by simp), e0.hok.kept hk, ?_⟩
 ·exact name_of_addr x.apart (PySem.mem_of_lookup h1) (PySem.mem_of_lookup h2)
 ·have hy : scope.names.lookup y = some .cell ∨ scope.names.lookup y = some .free := hy
  rcases hy with hy | hy
  ·exact Jk hy
  ·exact absurd rfl (S.nofree _ (PySem.mem_of_lookup hy))
 ·exact Nat.le_of_lt (x.above y c (PySem.mem_of_lookup h))
 ·have hi : i < vs.length := by
   unfold start at h2
   by_cases hi : i < vs.length
   ·exact hi
   ·rw [List.getElem?_append_right (by simpa using hi)] at h2
    rw [List.getElem?_replicate] at h2
    split at h2 <;> cases h2
  have ha : vs[i]? = some v := by
   unfold start at h2
   rw [List.getElem?_append_left (by simpa using hi), List.getElem?_map] at h2
   cases e : vs[i]? with
   | none => rw [e] at h2; cases h2
   | some a => rw [e] at h2; cases h2; rfl
  obtain ⟨u, hu, rv⟩ := r.get ha
  have hp : ps[i]? = some y := by
   rw [← S.pre, List.getElem?_take_of_lt (by omega)]; exact h1
  have ndP : ps.Nodup := by rw [← S.pre]; exact S.nd.sublist (List.take_sublist _ _)
  refine ⟨u, rv, ?_⟩
  rcases S.par y (List.mem_of_getElem? hp) with k | k
  ·exact .inl ⟨k, GY ndP hp hu k⟩
  ·obtain ⟨c, e⟩ := Jk (n := s.heap.objs.size + 1) k
   refine .inr ⟨.inl k, c, e, ?_⟩
   have q := x.cell y c e
   rw [UY ndP hp hu (by show scope.names.lookup y ≠ _; rw [k]; decide)] at q
   exact q
 ·exact e0.hok.fresh (Nat.le_of_lt (x.above y c (PySem.mem_of_lookup h)))
 ·unfold start
  show _ = N.length
  rw [List.length_append, List.length_map, List.length_replicate]
  omega
theorem ZeR {CX : CXT} {P : Program} {w : World} {K : PySem.W.Frag} {mg : Str → Option Value} {base : Heap} {k : Nat} {f : Addr} {name qual : Str} {params : Arguments} {body : List Stmt} {scope : Scope} {dV kV doc pm cdv ct oc : Value} {an od : Option Addr}
  {osl : Array (Option Value)} {N ps : List Str} {sp : Sp} (lk : K.lookup f = some ⟨oc, od, .func (PySem.W.fnOf name qual params body scope dV kV doc pm an cdv ct), osl⟩) (hcd : PySem.W.codeIn K cdv qual = true) (S : Zr N ps scope)
  (len : ∀ vs H Q E, sp vs H Q E → vs.length = ps.length)
  (hbody : ∀ (A : Around) (outer : List Env) (s : Shared) (H : Hp) (vs : List V) (Q : VK) (E : XK), Xw k (A.deeper (envOfC qual scope s.heap.objs.size f cdv)) → sp vs H Q E →
   ∃ t, PSs (PM CX P w K mg base N qual scope f cdv A outer s H E) body t ∧ t { nx := fun _ H' => Q .non H', rt := Q } (start N vs) H) :
  ZD P w K mg base CX (k + 1) f (PySem.W.fnOf name qual params body scope dV kV doc pm an cdv ct) ps sp := by
 refine ⟨len, fun A outer s H args us vs Q E hr e0 hb r hsp => ?_⟩
 have hl := len _ _ _ _ hsp
 have KX : K.In s.heap := e0.mod.kin.keeps fun b o e => (e0.bs b o e).1
 have lim : s.heap.NoLimit := e0.mod.nolimit.keeps fun b o e => (e0.bs b o e).1
 have hkind : ∀ y ∈ ps.zip us, scope.names.lookup y.1 = some .local ∨ (scope.names.lookup y.1 = some .cell ∧ ((cellsFrom (s.heap.objs.size + 1) scope.names []).lookup y.1).isSome = true) := fun ⟨n, v⟩ hy => by
  rcases S.par n (List.of_mem_zip hy).1 with q | q
  ·exact .inl q
  ·exact .inr ⟨q, PySem.W.cellsFrom_some _ _ _ (.inl q)⟩
 refine codeAny_call_function hr.depth (KX _ _ lk) rfl S.co S.gen rfl (PySem.W.codeRec_of KX hcd) (hb _ _ _ _ ?_)
 refine wpAny_newFunctionEnv_cells S.kind hkind fun env he s1 x => ?_
 subst he
 refine ⟨lim.keeps x.toInCall.keep, codeAny_func ?_⟩
 obtain ⟨t, ht, hq⟩ := hbody A outer s H vs Q E (hr.deeper _) hsp
 have I : Inv (PM CX P w K mg base N qual scope f cdv A outer s H E) [] (start N vs) H s1 := Hx S hr.hd e0 hl r x
 refine wpAny_mono (ht [] s1 (start N vs) H _ I hq) (fun fl s' hs => ?_) fun e s' hs => hs
 have fin : ∀ {σ' : St} {H' : Hp} {v : V} {u : Value}, Inv (PM CX P w K mg base N qual scope f cdv A outer s H E) [] σ' H' s' → RelV v u → Q v H' → CE outer P w H s Q u s' :=
  fun {σ' H' v u} J rv q => ⟨v, H', J.os, J.bare, J.base, J.hok, rv, q⟩
 cases fl with
 | ret u =>
  obtain ⟨v, σ', H', J, rv, q⟩ := hs
  exact fin J rv q
 | next =>
  obtain ⟨σ', H', J, q⟩ := hs
  exact fin (v := V.non) (u := Value.none) J rfl q
 | brk =>
  obtain ⟨_, _, _, q⟩ := hs
  exact False.elim q
 | cont =>
  obtain ⟨_, _, _, q⟩ := hs
  exact False.elim q
end L2
namespace L2
open PySem PySem.Spec PyProof.Rows
section
variable {X : Cx} {x : Str} {p pos : Pos} {e : Expr} {es : List Expr} {t : TA} {id T : String} {r : List V → Hp → VK → Prop}
def tCB (r : List V → Hp → VK → Prop) (t : TA) : TE := fun σ H Q => t σ H fun vs H1 => r vs H1 Q
theorem MG (hc : V1 X (.builtin id) r) (hg : Gl X x) (hm : X.mg x = none) (hv : bootBuiltins x = some (.builtin id)) (ha : PA X (e :: es) t) (hn : autoParam (x ≠ "__name__") zz1._auto_1) (hdb : autoParam ((x == ("__debug__" : Str)) = false) zz1._auto_1)
  (he : autoParam (starEach (e :: es) X.env = (false, eval e X.env) :: starEach es X.env) zz3._auto_1) (hpl : autoParam ((backTo pos (starEach es X.env)).any (·.1) = false) zz3._auto_1) : PE X (.Call (.Name x p) (e :: es) [] pos) (tCB r t) := by
 intro pins s σ H Q I h
 refine wpAny_Call_Name_kw (XZ I hg hm hv ?_ hn hdb)
 exact PyProof.Rows.callWith_builtin1 (thn (ha pos pins s σ H _ I h) fun us s1 ⟨vs, H1, I1, r1, q1⟩ => hc pins s1 σ H1 vs us Q I1 r1 q1) he hpl
theorem L3 (hc : V1 X (.type T) r) (hg : Gl X x) (hm : X.mg x = none) (hv : bootBuiltins x = some (.type T)) (ha : PA X (e :: es) t) (hn : autoParam (x ≠ "__name__") zz1._auto_1) (hdb : autoParam ((x == ("__debug__" : Str)) = false) zz1._auto_1)
  (he : autoParam (starEach (e :: es) X.env = (false, eval e X.env) :: starEach es X.env) zz3._auto_1) (hpl : autoParam ((backTo pos (starEach es X.env)).any (·.1) = false) zz3._auto_1) : PE X (.Call (.Name x p) (e :: es) [] pos) (tCB r t) := by
 intro pins s σ H Q I h
 refine wpAny_Call_Name_kw (XZ I hg hm hv ?_ hn hdb)
 exact PyProof.Rows.callWith_type1 (thn (ha pos pins s σ H _ I h) fun us s1 ⟨vs, H1, I1, r1, q1⟩ => hc pins s1 σ H1 vs us Q I1 r1 q1) he hpl
end
end L2
namespace HT
open PySem PyProof.Rows
noncomputable def lexLt : List Int → List Int → Bool
 | [], [] => false
 | [], _ :: _ => true
 | _ :: _, [] => false
 | x :: xs, y :: ys => if x = y then lexLt xs ys else decide (x < y)
section
open PySem.SeqAt
open PySem.AutoSeq1 (wpAny_loadPart')
open PySem.MeetsSeq PySem.MeetsSeq2 PySem.MeetsSeq3
end
section
variable {prog : Program} {w : World} {A : Around} {E : Value → Shared → Prop} {s : Shared}
theorem S0 {t b : Addr} {vs ws : List Value} {Q : Value → Shared → Prop} (ht : IsTup s.heap t vs.toArray) (hb : IsTup s.heap b ws.toArray) (hv : vs ≠ [])
  (h1 : ws = [] → Q (.ref t) s) (h2 : ws ≠ [] → Q (.ref s.heap.objs.size) { s with heap := s.heap.push { cls := .type "tuple", data := .seq (vs ++ ws).toArray } })
  (hsz : vs.length + ws.length ≤ sizeLine) : wpAny (model prog w) A (binaryOp .Add (.ref t) (.ref b)) Q E s := by
 obtain ⟨⟨cls, dd, data, sl⟩, ho, hc, n, hd⟩ := id ht
 obtain ⟨⟨cls2, dd2, data2, sl2⟩, ho2, hc2, n2, hd2⟩ := id hb
 simp only at hc hd hc2 hd2
 subst hc hd hc2 hd2
 have e : vs.toArray ++ ws.toArray = (vs ++ ws).toArray := by simp
 by_cases hw : ws = []
 ·exact concat_meets ⟨_, ho, rfl⟩ ⟨_, ho2, rfl⟩ noFill_tuple_add seq_tuple_add PySem.F.slot_tuple_add PySem.F.entry_tuple_add (PySem.F.args_tuple_add_2 _ _)
   (tuple_addW1 t b vs.toArray ws.toArray n n2 dd dd2 sl sl2 (by simpa using hv) (by simp [hw])) ⟨ho, ho2, h1 hw⟩
 ·refine concat_meets ⟨_, ho, rfl⟩ ⟨_, ho2, rfl⟩ noFill_tuple_add seq_tuple_add PySem.F.slot_tuple_add PySem.F.entry_tuple_add (PySem.F.args_tuple_add_2 _ _)
   (tuple_addW2 t b vs.toArray ws.toArray n n2 dd dd2 sl sl2 (by simpa using hv) (by simpa using hw) (by rw [List.size_toArray, List.size_toArray]; exact hsz)) ⟨ho, ho2, ?_⟩
  rw [e]
  exact h2 hw
noncomputable def sIx (n d : Nat) : Option Int → Nat
 | none => d
 | some v => if v < 0 then (v + (n : Int)).toNat else min v.toNat n
theorem Ds (n d : Nat) : sIx n d none = d := rfl
theorem Zah (n d : Nat) (hd : d ≤ n) (o : Option Int) : sIx n d o ≤ n := by
 cases o with
 | none => exact hd
 | some v =>
  show (if v < 0 then (v + (n : Int)).toNat else min v.toNat n) ≤ n
  by_cases hv : v < 0
  ·rw [if_pos hv]; omega
  ·rw [if_neg hv]; exact Nat.min_le_right _ _
theorem Fn (v : Int) (n d : Nat) : (if v < 0 then max (v + (n : Int)) 0 else min v (n : Int)) = ((sIx n d (some v) : Nat) : Int) := by
 show (if v < 0 then max (v + (n : Int)) 0 else min v (n : Int)) = (((if v < 0 then (v + (n : Int)).toNat else min v.toNat n) : Nat) : Int)
 by_cases hv : v < 0
 ·simp only [if_pos hv]; omega
 ·simp only [if_neg hv]; omega
theorem D7 (lo hi : Option Int) (n : Nat) : Builtin.Slice.sliceAdjust lo hi 1 (n : Int) = (((sIx n 0 lo : Nat) : Int), ((sIx n n hi : Nat) : Int)) := by
 have h1 : ¬ ((1 : Int) < 0) := by omega
 unfold Builtin.Slice.sliceAdjust
 simp only [h1, if_false]
 refine Prod.ext ?_ ?_
 ·cases lo with
  | none => rfl
  | some v => exact Fn v n 0
 ·cases hi with
  | none => rfl
  | some v => exact Fn v n n
theorem Eo (i j : Nat) : Builtin.Slice.slicePlaces (i : Int) (j : Int) 1 = j - i := by
 unfold Builtin.Slice.slicePlaces
 have h1 : (1 : Int) > 0 := by omega
 simp only [h1, if_true, Int.ediv_one]
 split <;> omega
theorem Wd {v : Value} {o : Option Int} {Q : Option Int → Shared → Prop} (p : IsPart v o) (h : Q o s) : wpAny (model prog w) A (Builtin.Slice.slicePartIndex v) Q E s := by
 cases p with
 | none => exact slicePart_none h
 | int i t => exact slicePart_int h
theorem Vl {sl : Addr} {vl vu : Value} {lo hi : Option Int} {n : Nat} {Q : Int × Int × Nat → Shared → Prop} (hs : s.heap.IsSliceOf sl vl vu .none) (pl : IsPart vl lo) (pu : IsPart vu hi)
  (h : Q (((sIx n 0 lo : Nat) : Int), 1, sIx n n hi - sIx n 0 lo) s) : wpAny (model prog w) A (Builtin.Slice.sliceApplied (.ref sl) (pure (n : Int))) Q E s := by
 obtain ⟨os, hos, hcs, hds⟩ := id hs
 unfold Builtin.Slice.sliceApplied Builtin.Slice.sliceFields
 refine wpAny_bind (wpAny_bind (wpAny_field hos hds (x := vl) rfl (wpAny_bind (wpAny_field hos hds (x := vu) rfl (wpAny_bind (wpAny_field hos hds (x := .none) rfl (wpAny_pure ?_)))))))
 refine wpAny_bind (slicePart_none ?_)
 show wpAny _ _ (if ((1 : Int) == 0) = true then _ else _) _ _ s
 rw [if_neg (by decide)]
 refine wpAny_bind (Wd pl (wpAny_bind (Wd pu (wpAny_bind (wpAny_pure ?_)))))
 show wpAny _ _ (match Builtin.Slice.sliceAdjust lo hi 1 (n : Int) with | (lo, hi) => pure (lo, (1 : Int), Builtin.Slice.slicePlaces lo hi 1)) _ _ s
 rw [D7 lo hi n]
 show wpAny _ _ (pure (((sIx n 0 lo : Nat) : Int), (1 : Int), Builtin.Slice.slicePlaces ((sIx n 0 lo : Nat) : Int) ((sIx n n hi : Nat) : Int) 1)) _ _ s
 rw [Eo]
 exact wpAny_pure h
theorem NZ (xs : Array Value) (i k : Nat) : ((List.range k).filterMap fun (m : Nat) => xs[((i : Int) + (m : Int) * 1).toNat]?).toArray = ((xs.toList.drop i).take k).toArray := by
 have e : (fun (m : Nat) => xs[((i : Int) + (m : Int) * 1).toNat]?) = fun m => xs[i + m]? := by
  funext m
  have : ((i : Int) + (m : Int) * 1).toNat = i + m := by omega
  rw [this]
 rw [e]
 have := pick_run xs i k
 rw [List.filterMap_map] at this
 have e2 : ((fun x => xs[x]?) ∘ fun x => i + x) = fun m => xs[i + m]? := rfl
 rw [e2] at this
 rw [this]
theorem YU {t sl : Addr} {items : Array Value} {vl vu : Value} {lo hi : Option Int} {Q : Value → Shared → Prop} (ht : IsTup s.heap t items) (hs : s.heap.IsSliceOf sl vl vu .none) (pl : IsPart vl lo) (pu : IsPart vu hi)
  (hw : ¬ (sIx items.size 0 lo = 0 ∧ sIx items.size items.size hi = items.size))
  (h : Q (.ref s.heap.objs.size) { s with heap := s.heap.push { cls := .type "tuple", data := .seq ((items.toList.drop (sIx items.size 0 lo)).take (sIx items.size items.size hi - sIx items.size 0 lo)).toArray } })
  (hsz : items.size ≤ sizeLine) : wpAny (model prog w) A (getItem (.ref t) (.ref sl)) Q E s := by
 have htake : sizeOk (.seq ((items.toList.drop (sIx items.size 0 lo)).take (sIx items.size items.size hi - sIx items.size 0 lo)).toArray) := by
  show ((items.toList.drop (sIx items.size 0 lo)).take (sIx items.size items.size hi - sIx items.size 0 lo)).toArray.size ≤ sizeLine
  rw [List.size_toArray, List.length_take, List.length_drop, Array.length_toList]
  omega
 have hj : sIx items.size items.size hi ≤ items.size := Zah _ _ (Nat.le_refl _) hi
 obtain ⟨os, hos, hcs, hds⟩ := id hs
 have hTs : s.TypeIs (.ref sl) "slice" := ⟨os, hos, hcs⟩
 unfold getItem
 try with_reducible refine wpAny_holding ?_
 first | refine wpAny_bind (wpAny_pure ?_) | skip
 refine wpAny_bind (wpAny_sequenceKey ht.typeIs (by decide) ?_)
 refine wpAny_bind (wpAny_callSpecial?_slot (name := Str.ofString "__getitem__") ht.typeIs PyProof.Rows.slot_tuple_getitem
  (wpAny_call_entry PyProof.Rows.slot_tuple_getitem ht.typeIs entry_tuple_getitem ?_ (args_tuple_getitem _ _)))
 show wpAny _ _ (Builtin.Tuple.tupleItemsOf (.ref t) >>= _) _ _ s
 refine wpAny_bind (tupleItemsOf_ ht ?_)
 refine wpAny_bind (wpAny_typeOf hTs ?_)
 rw [if_pos (by decide)]
 refine wpAny_bind (Vl hs pl pu ?_)
 have hno : ¬ ((((sIx items.size 0 lo : Nat) : Int) == 0 && (1 : Int) == 1 && (sIx items.size items.size hi - sIx items.size 0 lo) == items.size) = true) := by
  intro q
  rw [Bool.and_eq_true, Bool.and_eq_true] at q
  have q1 : ((sIx items.size 0 lo : Nat) : Int) = 0 := eq_of_beq q.1.1
  have q2 : sIx items.size items.size hi - sIx items.size 0 lo = items.size := eq_of_beq q.2
  exact hw ⟨by omega, by omega⟩
 show wpAny _ _ (if (((sIx items.size 0 lo : Nat) : Int) == 0 && (1 : Int) == 1 && (sIx items.size items.size hi - sIx items.size 0 lo) == items.size) = true then _ else _) _ _ s
 rw [if_neg hno, NZ]
 first
  | exact wpAny_bind (m := Builtin.Tuple.tupleExact _) (wpAny_newObj_type (wpAny_pure ⟨_, rfl, wpAny_pure h⟩) htake)
  | exact wpAny_bind (m := Builtin.Tuple.tupleExact _) (wpAny_newObj_type (wpAny_bind (wpAny_pure (wpAny_pure ⟨_, rfl, wpAny_pure h⟩))) htake)
  | exact wpAny_bind (wpAny_bind (m := Builtin.Tuple.tupleExact _) (wpAny_newObj_type (wpAny_pure (wpAny_pure ⟨_, rfl, wpAny_pure h⟩)) htake))
  | exact wpAny_bind (wpAny_bind (m := Builtin.Tuple.tupleExact _) (wpAny_newObj_type (wpAny_pure ⟨_, rfl, wpAny_pure h⟩) htake))
end
end HT
namespace L2
open PySem PySem.Spec PyProof.Rows
abbrev TO := St → Hp → (Option Int → Hp → Prop) → Prop
def PO (X : Cx) (e : Option Expr) (t : TO) : Prop :=
 ∀ (pins : List (Addr × Obj)) (s : Shared) (σ : St) (H : Hp) (Q : Option Int → Hp → Prop), Inv X pins σ H s → t σ H Q →
  wpAny (model X.prog X.w) X.A (evalPart e X.env) (fun u s' => ∃ o H', Inv X pins σ H' s' ∧ IsPart u o ∧ Q o H') X.xe s
def TJ : TO := fun _ H Q => Q none H
def Zey (t : TE) : TO := fun σ H Q => t σ H fun x H1 => ∃ i, x = .int i ∧ Q (some i) H1
theorem intsAre_of {ns : List Int} : ∀ {us : List Value}, Vals (ns.map V.int) us → IntsAre us ns := by
 induction ns with
 | nil => intro us r; rw [List.map_nil] at r; cases r; exact .nil
 | cons n ns ih =>
  intro us r
  rw [List.map_cons] at r
  cases r with
  | cons r1 r2 =>
   obtain ⟨t, e⟩ := r1
   subst e
   exact .cons n t (ih r2)
section
variable {X : Cx} {e : Expr} {te : TE} {lo hi : Option Expr} {tl th : TO} {pos p2 : Pos}
theorem Sz : PO X none TJ := by
 intro pins s σ H Q I h
 rw [evalPart_none]
 exact wpAny_pure ⟨none, H, I, .none, h⟩
theorem S4 (h : PE X e te) : PO X (some e) (Zey te) := by
 intro pins s σ H Q I hw
 rw [evalPart_some]
 refine thn (h pins s σ H _ I hw) fun u s1 ⟨x, H1, I1, r1, q1⟩ => ?_
 obtain ⟨i, rfl, q⟩ := q1
 obtain ⟨t, rfl⟩ := r1
 exact ⟨some i, H1, I1, .int i t, q⟩
def SlR (X : Cx) (r : V → Option Int → Option Int → Hp → VK → Prop) : Prop :=
 ∀ (pins : List (Addr × Obj)) (s : Shared) (σ : St) (H : Hp) (x : V) (v vl vu : Value) (lo hi : Option Int) (sl : Addr) (Q : VK), Inv X pins σ H s → RelV x v → s.heap.IsSliceOf sl vl vu .none → IsPart vl lo → IsPart vu hi → r x lo hi H Q →
  ∃ T id, typeLookup (.type T) "__getitem__" = pure (some (.builtin id)) ∧ s.TypeIs v T ∧ wpAny (model X.prog X.w) X.A (getItem v (.ref sl)) (EP X pins σ Q) X.xe s
theorem SlR.or {r r' : V → Option Int → Option Int → Hp → VK → Prop} (h : SlR X r) (h' : SlR X r') : SlR X (fun x lo hi H Q => r x lo hi H Q ∨ r' x lo hi H Q) := by
 intro pins s σ H x v vl vu lo hi sl Q I rx hs pl pu q
 rcases q with q | q
 ·exact h pins s σ H x v vl vu lo hi sl Q I rx hs pl pu q
 ·exact h' pins s σ H x v vl vu lo hi sl Q I rx hs pl pu q
def tSl (r : V → Option Int → Option Int → Hp → VK → Prop) (te : TE) (tl th : TO) : TE := fun σ H Q => te σ H fun x H1 => tl σ H1 fun l H2 => th σ H2 fun u H3 => r x l u H3 Q
theorem UM {r : V → Option Int → Option Int → Hp → VK → Prop} (hr : SlR X r) (he : PE X e te) (hl : PO X lo tl) (hu : PO X hi th) : PE X (.Subscript e (.Slice lo hi none p2) pos) (tSl r te tl th) := by
 intro pins s σ H Q I h
 refine Subscript_ (thn (he pins s σ H _ I h) fun v s1 ⟨x, H1, I1, r1, q1⟩ => ?_)
 refine wpAny_Slice (thn (hl pins s1 σ H1 _ I1 q1) fun vl s2 ⟨l, H2, I2, pl, q2⟩ => thn (hu pins s2 σ H2 _ I2 q2) fun vu s3 ⟨u, H3, I3, pu, q3⟩ => ?_)
 rw [evalPart_none]
 refine wpAny_pure ?_
 have I4 : Inv X pins σ H3 { s3 with heap := s3.heap.push { cls := .type "slice", data := .fields #[vl, vu, .none] } } := I3.kept (t' := s3.toks) fun b ob q => Heap.get?_push_of_some _ q
 obtain ⟨T, id, hT, ht, hg⟩ := hr pins { s3 with heap := s3.heap.push { cls := .type "slice", data := .fields #[vl, vu, .none] } } σ H3 x v vl vu l u s3.heap.objs.size Q I4 r1 (Heap.IsSliceOf.new ..) pl pu q3
 show wpAny (model X.prog X.w) X.A (subscriptTail e (.Slice lo hi none p2) v (.ref s3.heap.objs.size)) (EP X pins σ Q) X.xe { s3 with heap := s3.heap.push { cls := .type "slice", data := .fields #[vl, vu, .none] } }
 exact tail_any (ops := [.ref s3.heap.objs.size, v]) ht hT hg (by with_unfolding_all rfl)
noncomputable def PV (xs : List V) (lo hi : Option Int) : List V := (xs.drop (HT.sIx xs.length 0 lo)).take (HT.sIx xs.length xs.length hi - HT.sIx xs.length 0 lo)
theorem Kv (xs : List V) (lo hi : Option Int) : (PV xs lo hi).length ≤ xs.length := by
 unfold PV
 rw [List.length_take, List.length_drop]
 omega
def ZfU (K : PySem.W.Frag) : V → Option Int → Option Int → Hp → VK → Prop := fun x lo hi H Q => ∃ a xs, x = .ref a ∧ SqT K H a xs ∧
 ¬ (HT.sIx xs.length 0 lo = 0 ∧ HT.sIx xs.length xs.length hi = xs.length) ∧ ∀ p, H p = none → Q (.ref p) (upd H p (.tup (PV xs lo hi)))
theorem Pg : SlR X (ZfU X.K) := by
 intro pins s σ H x v vl vu lo hi sl Q I rx hs pl pu h
 obtain ⟨a, xs, rfl, hx, hw, q⟩ := h
 cases rx
 obtain ⟨its, r, ht, hz⟩ := I.tuple hx
 have hlen : its.toArray.size = xs.length := by rw [List.size_toArray]; exact r.length.symm
 refine ⟨"tuple", _, PyProof.Rows.slot_tuple_getitem.lookup, ht.typeIs, ?_⟩
 refine HT.YU ht hs pl pu (by rw [hlen]; exact hw) ?_ (by rw [hlen]; exact hz)
 rw [hlen]
 refine ⟨.ref s.heap.objs.size, _, I.laid (t' := s.toks) (o := .tup (PV xs lo hi)) (fun b ob q => Heap.get?_push_of_some _ q) (Nat.le_refl _) ?_, rfl, q _ (I.hok.fresh (Nat.le_refl _))⟩
 exact ⟨Nat.le_trans (Kv xs lo hi) hz, _, (r.drop (HT.sIx xs.length 0 lo)).take (HT.sIx xs.length xs.length hi - HT.sIx xs.length 0 lo), IsTup.new _ _⟩
def ZgJ (K : PySem.W.Frag) : R2 := fun x y H Q => ∃ a b ns ms, x = .ref a ∧ y = .ref b ∧ SqT K H a (ns.map V.int) ∧ SqT K H b (ms.map V.int) ∧ Q (.bl (HT.lexLt ns ms)) H
def ZdN (K : PySem.W.Frag) : R2 := fun x y H Q => ∃ a b xs ys, x = .ref a ∧ y = .ref b ∧ SqT K H a xs ∧ SqT K H b ys ∧ xs ≠ [] ∧ xs.length + ys.length ≤ sizeLine ∧
 (ys = [] → Q (.ref a) H) ∧ (ys ≠ [] → ∀ p, H p = none → Q (.ref p) (upd H p (.tup (xs ++ ys))))
theorem Vals.UK {xs : List V} {us : List Value} (r : Vals xs us) : us = [] ↔ xs = [] := by
 cases r with
 | nil => simp
 | cons _ _ => simp
theorem Tq : OpR X (binaryOp .Add) (ZdN X.K) := by
 intro pins s σ H x y v u Q I rx ry h
 obtain ⟨a, b, xs, ys, rfl, rfl, ha, hb, hx, hz, q1, q2⟩ := h
 cases rx
 cases ry
 obtain ⟨its, r1, p1, _⟩ := I.tuple ha
 obtain ⟨its2, r2, p2, _⟩ := I.tuple hb
 refine HT.S0 p1 p2 (fun z => hx (r1.UK.mp z)) (fun z => ⟨.ref a, H, I, rfl, q1 (r2.UK.mp z)⟩) (fun z => ?_) (by rw [← r1.length, ← r2.length]; exact hz)
 refine ⟨.ref s.heap.objs.size, _, I.laid (t' := s.toks) (o := .tup (xs ++ ys)) (fun b ob q => Heap.get?_push_of_some _ q) (Nat.le_refl _) ?_, rfl, q2 (fun w => z (r2.UK.mpr w)) _ (I.hok.fresh (Nat.le_refl _))⟩
 exact ⟨by rw [List.length_append]; exact hz, _, r1.append r2, IsTup.new _ _⟩
end
end L2
namespace L2
open PySem PySem.Spec PyProof.Rows
noncomputable def ixN (n : Nat) (i : Int) : Option Nat := if 0 ≤ i then (if i < n then some i.toNat else none) else if -(n : Int) ≤ i then some (i + n).toNat else none
noncomputable def atI {α : Type} (xs : List α) (i : Int) : Option α := (ixN xs.length i).bind fun j => xs[j]?
theorem LG {n : Nat} {i : Int} {j : Nat} (h : ixN n i = some j) : seqIndex? i n = some j ∧ j < n ∧ -(n : Int) ≤ i ∧ i < n := by
 unfold ixN at h
 by_cases h0 : 0 ≤ i
 ·rw [if_pos h0] at h
  by_cases h1 : i < n
  ·rw [if_pos h1] at h
   have e : i.toNat = j := Option.some.inj h
   exact ⟨by rw [seqIndex_of h0 h1, e], by omega, by omega, h1⟩
  ·rw [if_neg h1] at h; cases h
 ·rw [if_neg h0] at h
  by_cases h1 : -(n : Int) ≤ i
  ·rw [if_pos h1] at h
   have e : (i + n).toNat = j := Option.some.inj h
   exact ⟨by rw [seqIndex_neg (by omega) h1, e], by omega, h1, by omega⟩
  ·rw [if_neg h1] at h; cases h
theorem G7 {α : Type} {xs : List α} {i : Int} {v : α} (h : atI xs i = some v) : ∃ j, seqIndex? i xs.length = some j ∧ xs[j]? = some v ∧ j < xs.length ∧ -(xs.length : Int) ≤ i ∧ i < xs.length := by
 unfold atI at h
 cases e : ixN xs.length i with
 | none => rw [e] at h; cases h
 | some j =>
  rw [e] at h
  obtain ⟨h1, h2, h3, h4⟩ := LG e
  exact ⟨j, h1, h, h2, h3, h4⟩
theorem Vh {α : Type} {xs : List α} {j : Nat} {v : α} (h : xs[j]? = some v) : atI xs (j : Int) = some v := by
 have hj : j < xs.length := (List.getElem?_eq_some_iff.mp h).1
 have e : ixN xs.length (j : Int) = some j := by
  unfold ixN
  rw [if_pos (by omega), if_pos (by omega)]; simp
 unfold atI; rw [e]; exact h
theorem MJ {α : Type} (xs : List α) (v : α) : atI (xs ++ [v]) (-1) = some v := by
 have hl : (xs ++ [v]).length = xs.length + 1 := by simp
 have e : ixN (xs ++ [v]).length (-1) = some xs.length := by
  unfold ixN
  rw [hl, if_neg (by decide), if_pos (by omega)]
  congr 1
  omega
 unfold atI
 rw [e]
 show (xs ++ [v])[xs.length]? = some v
 simp
def FE (b : Expr) : Prop := ∀ o i, subscripted b false o i = operate [o, i] (getItem o i)
def IxR (X : Cx) (r : R2) : Prop :=
 ∀ (value slice : Expr) (pins : List (Addr × Obj)) (s : Shared) (σ : St) (H : Hp) (x y : V) (v u : Value) (Q : VK), Inv X pins σ H s → RelV x v → RelV y u → r x y H Q →
  subscripted slice false v u = operate [v, u] (getItem v u) → wpAny (model X.prog X.w) X.A (subscriptTail value slice v u) (EP X pins σ Q) X.xe s
def MtR (X : Cx) (id : String) (r : V → List V → Hp → VK → Prop) : Prop :=
 ∀ (pins : List (Addr × Obj)) (s : Shared) (σ : St) (H : Hp) (x : V) (xs : List V) (v : Value) (us : List Value) (Q : VK), Inv X pins σ H s → RelV x v → Vals xs us → r x xs H Q →
  wpAny (model X.prog X.w) X.A (call (.builtin id) (v :: us)) (EP X pins σ Q) X.xe s
section
variable {X : Cx} {a b : Expr} {ta tb : TE} {pos : Pos}
theorem IxR.or {r r' : R2} (h : IxR X r) (h' : IxR X r') : IxR X (fun x y H Q => r x y H Q ∨ r' x y H Q) := by
 intro value slice pins s σ H x y v u Q I rx ry q hs
 rcases q with q | q
 ·exact h value slice pins s σ H x y v u Q I rx ry q hs
 ·exact h' value slice pins s σ H x y v u Q I rx ry q hs
theorem ZeC {r : R2} (hr : IxR X r) (ha : PE X a ta) (hb : PE X b tb) (hs : FE b) : PE X (.Subscript a b pos) (tOp r ta tb) := by
 intro pins s σ H Q I h
 exact Subscript_ (Zee ha hb I h fun v u s2 x y H2 I2 rx ry q => hr a b pins s2 σ H2 x y v u Q I2 rx ry q (hs _ _))
def Zfx (K : PySem.W.Frag) : R2 := fun x y H Q => ∃ p xs i v, x = .ref p ∧ y = .int i ∧ SqL K H p xs ∧ atI xs i = some v ∧ Q v H
def Ze9 (K : PySem.W.Frag) : R2 := fun x y H Q => ∃ p xs i v, x = .ref p ∧ y = .int i ∧ SqT K H p xs ∧ atI xs i = some v ∧ Q v H
def Ze3 : R2 := fun x y H Q => ∃ z i c, x = .str z ∧ y = .int i ∧ z.length ≤ sizeLine ∧ atI z.cps.toList i = some c ∧ Q (.str ⟨#[c]⟩) H
theorem RQ : IxR X (Zfx X.K) := by
 intro value slice pins s σ H x y v u Q I rx ry h hs
 obtain ⟨p, xs, i, z, rfl, rfl, hq, he, q⟩ := h
 cases rx
 obtain ⟨t, rfl⟩ := ry
 obtain ⟨its, r, pl, hz⟩ := I.list hq
 obtain ⟨j, h1, h2, h3, h4, h5⟩ := G7 he
 obtain ⟨w, ew, rw'⟩ := r.get h2
 have hl := r.length
 have hn := Wq
 have fin : EP X pins σ Q w s := ⟨z, H, I, rw', q⟩
 by_cases h0 : 0 ≤ i
 ·have hj : i.toNat = j := by
   rw [seqIndex_of h0 h5] at h1
   exact Option.some.inj h1
  exact item_listR pl.isList h0 (by omega) (by rw [hj]; simpa using ew) fin hs
 ·have hj : (i + (its.toArray.size : Int)).toNat = j := by
   rw [seqIndex_neg (by omega) h4] at h1
   rw [List.size_toArray, ← hl]
   exact Option.some.inj h1
  exact subscriptTail_builtinR (x := w) pl.isList.typeIs slot_list_getitem.lookup
   (wpAny_getItem_list_neg (Q := fun r s' => r = w ∧ EP X pins σ Q r s') pl.isList (by omega) (by rw [List.size_toArray] <;> omega) (by omega) (by rw [hj]; simpa using ew) ⟨rfl, fin⟩) hs
theorem Zbq : IxR X (Ze9 X.K) := by
 intro value slice pins s σ H x y v u Q I rx ry h hs
 obtain ⟨p, xs, i, z, rfl, rfl, hq, he, q⟩ := h
 cases rx
 obtain ⟨t, rfl⟩ := ry
 obtain ⟨its, r, pl, hz⟩ := I.tuple hq
 obtain ⟨j, h1, h2, h3, h4, h5⟩ := G7 he
 obtain ⟨w, ew, rw'⟩ := r.get h2
 have hl := r.length
 have hn := Wq
 have fin : EP X pins σ Q w s := ⟨z, H, I, rw', q⟩
 exact subscriptTail_builtinR (x := w) pl.typeIs slot_tuple_getitem.lookup
  (getItem_tuple (j := j) (Q := fun r s' => r = w ∧ EP X pins σ Q r s') pl (by omega) (by omega) (by rw [List.size_toArray, ← hl]; exact h1) (by simpa using ew) ⟨rfl, fin⟩) hs
theorem Zbj : IxR X Ze3 := by
 intro value slice pins s σ H x y v u Q I rx ry h hs
 obtain ⟨z, i, c, rfl, rfl, hz, he, q⟩ := h
 obtain ⟨t, rfl⟩ := rx
 obtain ⟨t', rfl⟩ := ry
 obtain ⟨j, h1, h2, h3, h4, h5⟩ := G7 he
 have hl : z.cps.toList.length = z.length := by simp [Str.length]
 rw [hl] at h1 h4 h5
 have hn := Wq
 exact tail_any (typeIs_str s z t) slot_str_getitem.lookup (getItem_str (c := c) (by
  have e1 : decide (i < -(2 ^ 63 : Int)) = false := decide_eq_false (by omega)
  have e2 : decide (i ≥ 2 ^ 63) = false := decide_eq_false (by omega)
  rw [e1, e2, Bool.or_false]) (by rw [h1]; simpa using h2) ⟨.str ⟨#[c]⟩, H, I.tok _, ⟨_, rfl⟩, q⟩) hs
def rIx (K : PySem.W.Frag) : R2 := fun x y H Q => Zfx K x y H Q ∨ Ze9 K x y H Q ∨ Ze3 x y H Q
theorem Zch : IxR X (rIx X.K) := RQ.or (Zbq.or Zbj)
theorem Er (its : List Value) (n j : Nat) (u : Value) : Obj.mapSeq (·.setIfInBounds j u) { cls := .type "list", data := .seq its.toArray n } = { cls := .type "list", data := .seq (its.set j u).toArray n } := by
 simp [Obj.mapSeq]
theorem Inv.lst {pins : List (Addr × Obj)} {σ : St} {H : Hp} {s : Shared} {p : Addr} {xs : List V} (I : Inv X pins σ H s) (h : H p = some (.lst xs)) :
  ∃ (its : List Value) (n : Nat), Vals xs its ∧ s.heap.get? p = some { cls := .type "list", data := .seq its.toArray n } ∧ xs.length ≤ sizeLine := by
 obtain ⟨z, its, n, r, e⟩ := I.hok p _ h
 exact ⟨its, n, r, e, z⟩
theorem Inv.ZaN {pins : List (Addr × Obj)} {σ : St} {H : Hp} {s : Shared} {p : Addr} {xs ys : List V} {its its' : List Value} {n n' : Nat} {f : Obj → Obj} (I : Inv X pins σ H s) (h : H p = some (.lst xs))
  (ho : s.heap.get? p = some { cls := .type "list", data := .seq its.toArray n }) (hf : f { cls := .type "list", data := .seq its.toArray n } = { cls := .type "list", data := .seq its'.toArray n' }) (r : Vals ys its') (hz : ys.length ≤ sizeLine) (t : Nat) :
  Inv X pins σ (upd H p (.lst ys)) { s with heap := s.heap.update p f, toks := t } := by
 have e : (s.heap.update p f).get? p = some { cls := .type "list", data := .seq its'.toArray n' } := by
  rw [Heap.get?_update_self f ho (by rw [hf] <;> rfl), hf]
 refine I.write (x := p) (e := p) (by rw [h]; trivial) (.inl rfl) (fun b u hb q => (Heap.get?_update_other _ _ (Ne.symm hb)).trans q) ⟨_, e⟩ ?_
 exact ⟨hz, its', n', r, e⟩
def ZdQ : V → V → V → Hp → (Hp → Prop) → Prop := fun o i v H Q => ∃ p xs k j, o = .ref p ∧ i = .int k ∧ H p = some (.lst xs) ∧ ixN xs.length k = some j ∧ Q (upd H p (.lst (xs.set j v)))
theorem set_list : ZfJ X ZdQ := by
 intro pins s σ H o i v ov iv u Q I ro ri rv h
 obtain ⟨p, xs, k, j, rfl, rfl, hp, hj, q⟩ := h
 cases ro
 obtain ⟨t, rfl⟩ := ri
 obtain ⟨its, n, r, ho, hz⟩ := I.lst hp
 obtain ⟨h1, h2, h3, h4⟩ := LG hj
 have hl := r.length
 have hn := Wq
 have I' : Inv X pins σ (upd H p (.lst (xs.set j v))) { s with heap := s.heap.update p (Obj.mapSeq (·.setIfInBounds j u)) } :=
  I.ZaN hp ho (Er its n j u) (r.set rv j) (by rw [List.length_set]; exact hz) s.toks
 by_cases h0 : 0 ≤ k
 ·have hk : k.toNat = j := by
   rw [seqIndex_of h0 h4] at h1
   exact Option.some.inj h1
  exact PySem.W.ki_setAt ho h0 (by omega) (by rw [List.size_toArray, ← hl]; exact h4) (by rw [hk]; exact ⟨_, I', q⟩)
 ·have hk : (k + (its.toArray.size : Int)).toNat = j := by
   rw [seqIndex_neg (by omega) h3] at h1
   rw [List.size_toArray, ← hl]
   exact Option.some.inj h1
  exact PySem.W.ki_setBack ho (by omega) (by rw [List.size_toArray, ← hl]; exact h3) (by omega) (by rw [hk]; exact ⟨_, I', q⟩)
theorem Gh (lo hi : Option Int) (n : Nat) : (sliceBounds lo hi none n).1 = ((HT.sIx n 0 lo : Nat) : Int) ∧ (sliceBounds lo hi none n).2.1 = ((HT.sIx n n hi : Nat) : Int) ∧ (sliceBounds lo hi none n).2.2 = 1 := by
 refine ⟨?_, ?_, rfl⟩
 ·cases lo with
  | none => simp [sliceBounds, HT.sIx]
  | some i =>
   simp only [sliceBounds, HT.sIx, Option.getD_none, show (1 : Int) > 0 by decide, if_true]
   by_cases h : i < 0
   ·simp only [h, if_true] <;> omega
   ·simp only [h, if_false] <;> omega
 ·cases hi with
  | none => simp [sliceBounds, HT.sIx]
  | some i =>
   simp only [sliceBounds, HT.sIx, Option.getD_none, show (1 : Int) > 0 by decide, if_true]
   by_cases h : i < 0
   ·simp only [h, if_true] <;> omega
   ·simp only [h, if_false] <;> omega
theorem UP (its : List Value) (lo hi : Option Int) : slicePick its.toArray lo hi none = ((its.drop (HT.sIx its.length 0 lo)).take (HT.sIx its.length its.length hi - HT.sIx its.length 0 lo)).toArray := by
 obtain ⟨h1, h2, h3⟩ := Gh lo hi its.toArray.size
 unfold slicePick
 rw [h1, h2, h3]
 simp only [sliceRange_one, pick_run, List.size_toArray] <;> rfl
def ZfS (K : PySem.W.Frag) : V → Option Int → Option Int → Hp → VK → Prop := fun x lo hi H Q => ∃ a xs, x = .ref a ∧ SqL K H a xs ∧ ∀ p, H p = none → Q (.ref p) (upd H p (.lst (PV xs lo hi)))
theorem Ru : SlR X (ZfS X.K) := by
 intro pins s σ H x v vl vu lo hi sl Q I rx hs pl pu h
 obtain ⟨a, xs, rfl, hx, q⟩ := h
 cases rx
 obtain ⟨its, r, ht, hz⟩ := I.list hx
 have hlen := r.length
 refine ⟨"list", _, slot_list_getitem.lookup, ht.isList.typeIs, ?_⟩
 refine wpAny_getItem_list_slice ht.isList hs pl pu .none (by simp) ?_ (by rw [List.size_toArray] <;> omega)
 rw [UP, ← hlen]
 refine ⟨.ref s.heap.objs.size, _, I.laid (t' := s.toks) (o := .lst (PV xs lo hi)) (fun b ob q => Heap.get?_push_of_some _ q) (Nat.le_refl _) ?_, rfl, q _ (I.hok.fresh (Nat.le_refl _))⟩
 exact ⟨Nat.le_trans (Kv xs lo hi) hz, _, 0, (r.drop (HT.sIx xs.length 0 lo)).take (HT.sIx xs.length xs.length hi - HT.sIx xs.length 0 lo), Heap.get?_push_size _ rfl⟩
noncomputable def Zct : V → Bool
 | .non => true
 | .bl _ => true
 | .int _ => true
 | .str _ => true
 | _ => false
noncomputable def eqV : V → V → Bool
 | .non, .non => true
 | .bl a, .bl b => a == b
 | .bl a, .int b => (if a then 1 else 0) == b
 | .int a, .bl b => a == (if b then 1 else 0)
 | .int a, .int b => a == b
 | .str a, .str b => a == b
 | _, _ => false
noncomputable def eqU (x : V) (u : Value) : Bool := match u with
 | .none => eqV .non x
 | .bool b => eqV (.bl b) x
 | .int i _ => eqV (.int i) x
 | .str z _ => eqV (.str z) x
 | _ => false
noncomputable def inV (x : V) (xs : List V) : Bool := xs.any fun y => eqV y x
def rIn (K : PySem.W.Frag) (neg : Bool) : R2 := fun x y H Q => ∃ p xs, y = .ref p ∧ (SqL K H p xs ∨ SqT K H p xs) ∧ Zct x = true ∧ xs.all Zct = true ∧ Q (.bl (if neg then !inV x xs else inV x xs)) H
theorem U8 : V1 X (.builtin "len") (fun xs H Q => ∃ p ys, xs = [.ref p] ∧ (SqL X.K H p ys ∨ SqT X.K H p ys) ∧ Q (.int ys.length) H) := by
 intro pins s σ H xs us Q I r h
 obtain ⟨p, ys, rfl, hq, q⟩ := h
 obtain ⟨u, rfl, rx⟩ := vals1 r
 cases rx
 have hn := Wq
 rcases hq with hq | hq
 ·obtain ⟨its, r', pl, hz⟩ := I.list hq
  have hlen := r'.length
  exact Calls.call_len_list pl.isList (by simp only [List.size_toArray] <;> omega) ⟨.int ys.length, H, I.tok _, ⟨s.toks + 1, by rw [List.size_toArray, hlen]⟩, q⟩
 ·obtain ⟨its, r', pl, hz⟩ := I.tuple hq
  have hlen := r'.length
  exact len_tuple pl (by simp only [List.size_toArray] <;> omega) ⟨.int ys.length, H, I.tok _, ⟨s.toks + 1, by rw [List.size_toArray, hlen]⟩, q⟩
theorem U1 : V1 X (.type "list") (fun xs H Q => ∃ p ys, xs = [.ref p] ∧ (SqL X.K H p ys ∨ SqT X.K H p ys) ∧ ∀ l, H l = none → Q (.ref l) (upd H l (.lst ys))) := by
 intro pins s σ H xs us Q I r h
 obtain ⟨p, ys, rfl, hq, q⟩ := h
 obtain ⟨u, rfl, rx⟩ := vals1 r
 cases rx
 have fin : ∀ (its : List Value), Vals ys its → ys.length ≤ sizeLine → ∀ (h' : Heap) (c' : Nat), (∀ b o', s.heap.get? b = some o' → h'.get? b = some o') →
   h'.get? s.heap.objs.size = some { cls := .type "list", dict := none, data := .seq its.toArray c', slots := #[] } → EP X pins σ Q (.ref s.heap.objs.size) { s with heap := h' } := fun its r' hz h' c' kp e =>
  ⟨.ref s.heap.objs.size, _, I.laid (t' := s.toks) kp (Nat.le_refl _) (show J8 X.prog X.w _ h' _ (.lst ys) from ⟨hz, its, c', r', e⟩), rfl, q _ (I.hok.fresh (Nat.le_refl _))⟩
 rcases hq with hq | hq
 ·obtain ⟨its, r', pl, hz⟩ := I.list hq
  have hlen := r'.length
  obtain ⟨o, ho, hc, n, hd⟩ := pl.isList
  exact call_list_seq p (.inl rfl) ho hc hd (fun h' c' kp e => fin its r' hz h' c' kp e) (by simp only [List.size_toArray] <;> omega)
 ·obtain ⟨its, r', pl, hz⟩ := I.tuple hq
  have hlen := r'.length
  obtain ⟨o, ho, hc, n, hd⟩ := pl
  exact call_list_seq p (.inr rfl) ho hc hd (fun h' c' kp e => fin its r' hz h' c' kp e) (by simp only [List.size_toArray] <;> omega)
theorem UL : V1 X (.type "tuple") (fun xs H Q => ∃ p ys, xs = [.ref p] ∧ ((SqL X.K H p ys ∧ ∀ l, H l = none → Q (.ref l) (upd H l (.tup ys))) ∨ (SqT X.K H p ys ∧ Q (.ref p) H))) := by
 intro pins s σ H xs us Q I r h
 obtain ⟨p, ys, rfl, h⟩ := h
 obtain ⟨u, rfl, rx⟩ := vals1 r
 cases rx
 rcases h with ⟨hq, q⟩ | ⟨hq, q⟩
 ·obtain ⟨its, r', pl, hz⟩ := I.list hq
  have hlen := r'.length
  refine call_tuple_list pl.isList (fun h' kp => ?_) (by simp only [List.size_toArray] <;> omega)
  have I1 : Inv X pins σ H { s with heap := h' } := I.kept (t' := s.toks) kp
  have I2 : Inv X pins σ (upd H h'.objs.size (.tup ys)) { s with heap := h'.push { cls := .type "tuple", data := .seq its.toArray } } :=
   I1.laid (t' := s.toks) (fun b o e => Heap.get?_push_of_some _ e) (Nat.le_refl _) (show J8 X.prog X.w _ _ _ (.tup ys) from ⟨hz, its, r', IsTup.new _ _⟩)
  exact ⟨.ref h'.objs.size, _, I2, rfl, q _ (I1.hok.fresh (Nat.le_refl _))⟩
 ·obtain ⟨its, r', pl, hz⟩ := I.tuple hq
  exact call_tuple_same pl ⟨.ref p, H, I, rfl, q⟩
def tyV (K : PySem.W.Frag) (T : String) (x : V) (H : Hp) : Prop := match x with
 | .str _ => T = "str"
 | .int _ => T = "int"
 | .ref p => (T = "list" ∧ ∃ xs, SqL K H p xs) ∨ (T = "tuple" ∧ ∃ o, K.lookup p = some o ∧ o.cls = .type "tuple" ∧ o.dict = none) ∨
   (T = "dict" ∧ ((∃ kvs, H p = some (.dK kvs)) ∨ ∃ kvs, H p = some (.dT kvs))) ∨ (T = "set" ∧ ∃ S n, H p = some (.set S n))
 | _ => False
theorem PR {pins : List (Addr × Obj)} {σ : St} {H : Hp} {s : Shared} {T : String} {x : V} {v : Value} (I : Inv X pins σ H s) (r : RelV x v) (ty : tyV X.K T x H) :
  s.TypeIs v T ∧ ∀ a, v = .ref a → ∃ ob, s.heap.get? a = some ob ∧ ob.dict = none := by
 cases x with
 | str z =>
  obtain ⟨t, rfl⟩ := r
  cases (show T = "str" from ty)
  exact ⟨typeIs_str s z t, fun _ e => nomatch e⟩
 | int i =>
  obtain ⟨t, rfl⟩ := r
  cases (show T = "int" from ty)
  exact ⟨typeIs_int s i t, fun _ e => nomatch e⟩
 | ref p =>
  cases r
  rcases ty with ⟨rfl, xs, hq⟩ | ⟨rfl, o, hk, hc, hd⟩ | ⟨rfl, hk⟩ | ⟨rfl, S, n, hk⟩
  ·obtain ⟨its, _, pl, _⟩ := I.list hq
   refine ⟨pl.isList.typeIs, fun a e => ?_⟩
   cases e
   obtain ⟨o, n, e, c, hd, _⟩ := pl
   exact ⟨o, e, hd⟩
  ·refine ⟨⟨o, I.kIn p o hk, hc⟩, fun a e => ?_⟩
   cases e
   exact ⟨o, I.kIn _ o hk, hd⟩
  ·have z : ∃ o, s.heap.get? p = some o ∧ o.ExactDict := by
    rcases hk with ⟨kvs, hk⟩ | ⟨kvs, hk⟩
    ·obtain ⟨_, _, _, _, o, _, _, e, ex, _⟩ := I.hok p _ hk
     exact ⟨o, e, ex⟩
    ·obtain ⟨_, _, _, _, o, _, _, e, ex, _⟩ := I.hok p _ hk
     exact ⟨o, e, ex⟩
   obtain ⟨o, e, ex⟩ := z
   refine ⟨⟨o, e, ex.1⟩, fun a e2 => ?_⟩
   cases e2
   exact ⟨o, e, ex.2.1⟩
  ·obtain ⟨o, _, _, _, e, ex, _⟩ := I.hok p _ hk
   refine ⟨⟨o, e, ex.1⟩, fun a e2 => ?_⟩
   cases e2
   exact ⟨o, e, ex.2.1⟩
 | _ => exact False.elim ty
def Zgf (K : PySem.W.Frag) (T : String) (r : V → List V → Hp → VK → Prop) (to : TE) : TE := fun σ H Q => to σ H fun x H1 => tyV K T x H1 ∧ r x [] H1 Q
def tBM (K : PySem.W.Frag) (T : String) (r : V → List V → Hp → VK → Prop) (to : TE) (t : TA) : TE := fun σ H Q => to σ H fun x H1 => tyV K T x H1 ∧ t σ H1 fun xs H2 => r x xs H2 Q
variable {o e : Expr} {es : List Expr} {to : TE} {t : TA} {name : Str} {apos cpos : Pos} {T id : String} {r : V → List V → Hp → VK → Prop}
theorem ZcN (pa : PlainAttrs T) (slot : Slot T name id) (hty : typeOf (.builtin id) = pure (.type "method_descriptor")) (hm : MtR X id r) (ho : PE X o to)
  (hbase : autoParam (attributeBase o name X.env (eval o X.env) = eval o X.env) zz3._auto_1) (hline : autoParam ((apos.endLine == cpos.line) = true) zz3._auto_1) : PE X (.Call (.Attribute o name apos) [] [] cpos) (Zgf X.K T r to) := by
 intro pins s σ H Q I h
 refine wpAny_Call_method0_late hbase hline (thn (ho pins s σ H _ I h) fun v s1 ⟨x, H1, I1, r1, ty, q1⟩ => ?_)
 obtain ⟨h1, h2⟩ := PR I1 r1 ty
 exact ⟨T, id, pa, slot, hty, h1, h2, Calls.callWith_builtin rfl (PySem.evalArgs_none (hm pins s1 σ H1 x [] v [] Q I1 r1 .nil q1))⟩
theorem S8 (pa : PlainAttrs T) (slot : Slot T name id) (hty : typeOf (.builtin id) = pure (.type "method_descriptor")) (hm : MtR X id r) (ho : PE X o to) (ha : PA X (e :: es) t)
  (hbase : autoParam (attributeBase o name X.env (eval o X.env) = eval o X.env) zz3._auto_1)
  (hfew : ((backTo cpos (starEach (e :: es) X.env)).all (fun x => !x.1) && (backToKw cpos (keywordEach [] X.env)).all (fun x => x.1.isSome)
   && decide ((e :: es).length + ([] : List Keyword).length + (if ([] : List Keyword).isEmpty then 0 else 1) < 30)) = true := by rfl)
  (hline : autoParam ((apos.endLine == cpos.line) = true) zz3._auto_1) (hs : autoParam (starEach (e :: es) X.env = (false, eval e X.env) :: starEach es X.env) zz3._auto_1) (hplain : autoParam ((backTo cpos (starEach es X.env)).any (·.1) = false) zz3._auto_1) :
  PE X (.Call (.Attribute o name apos) (e :: es) [] cpos) (tBM X.K T r to t) := by
 intro pins s σ H Q I h
 refine wpAny_Call_method_late hbase hfew hline rfl (thn (ho pins s σ H _ I h) fun v s1 ⟨x, H1, I1, r1, ty, q1⟩ => ?_)
 obtain ⟨h1, h2⟩ := PR I1 r1 ty
 refine ⟨T, id, pa, slot, hty, h1, h2, ?_⟩
 have hA := ha cpos pins s1 σ H1 _ I1 q1
 rw [hs] at hA ⊢
 refine Calls.callWith_builtin (by show (false || (backTo cpos (starEach es X.env)).any (·.1)) = false; rw [hplain] <;> rfl) (Calls.evalArgs_plain ?_)
 exact thn hA fun us s2 ⟨vs, H2, I2, r2, q2⟩ => hm pins s2 σ H2 x vs v us Q I2 r1 r2 q2
end
end L2
namespace L2
open PySem PySem.Spec PyProof.Rows
def MtM (X : Cx) (id : String) (r : V → List V → Hp → VK → Prop) : Prop :=
 ∀ (pins : List (Addr × Obj)) (s : Shared) (σ : St) (H : Hp) (x : V) (xs : List V) (v : Value) (us : List Value) (Q : VK), Inv X pins σ H s → RelV x v → Vals xs us → r x xs H Q →
  wpAny (model X.prog X.w) X.A (call (.builtin id) (v :: us)) (EP X pins σ Q) X.xe s
theorem Vals.one : ∀ {x : V} {us : List Value}, Vals [x] us → ∃ u, us = [u] ∧ RelV x u
 | _, _, .cons r .nil => ⟨_, rfl, r⟩
theorem Vals.two : ∀ {x y : V} {us : List Value}, Vals [x, y] us → ∃ u v, us = [u, v] ∧ RelV x u ∧ RelV y v
 | _, _, _, .cons r (.cons q .nil) => ⟨_, _, rfl, r, q⟩
theorem Vals.zero : ∀ {us : List Value}, Vals [] us → us = []
 | _, .nil => rfl
theorem Vals.dropLast {xs : List V} {us : List Value} (h : Vals xs us) : Vals xs.dropLast us.dropLast := by
 induction h with
 | nil => exact .nil
 | cons r t ih =>
  cases t with
  | nil => exact .nil
  | cons q t' => exact .cons r ih
theorem Vals.reverse {xs : List V} {us : List Value} (h : Vals xs us) : Vals xs.reverse us.reverse := by
 induction h with
 | nil => exact .nil
 | cons r t ih => rw [List.reverse_cons, List.reverse_cons]; exact Vals.append ih (.cons r .nil)
theorem Ek {α : Type} (l : List α) : l.eraseIdx (l.length - 1) = l.dropLast := by
 induction l with
 | nil => rfl
 | cons a r ih =>
  cases r with
  | nil => rfl
  | cons b r =>
   have e : (a :: b :: r).length - 1 = ((b :: r).length - 1) + 1 := by
    have h1 : (a :: b :: r).length = r.length + 2 := rfl
    have h2 : (b :: r).length = r.length + 1 := rfl
    omega
   rw [e, List.eraseIdx_cons_succ, ih]
   all_goals rfl
section
variable {X : Cx} {pins : List (Addr × Obj)} {σ : St} {H : Hp} {s : Shared} {l b : Addr} {xs ys zs : List V}
theorem Inv.Zd2 {its its' : List Value} {n : Nat} {f : Array Value → Array Value} {t' : Nat} (I : Inv X pins σ H s) (hH : H l = some (.lst xs))
  (e : s.heap.get? l = some { cls := .type "list", data := .seq its.toArray n }) (hf : f its.toArray = its'.toArray) (hv : Vals ys its') (hz : ys.length ≤ sizeLine) :
  Inv X pins σ (upd H l (.lst ys)) { s with heap := s.heap.update l (Obj.mapSeq f), toks := t' } := by
 have q := PySem.IsL.update e f
 rw [hf] at q
 refine I.write (x := l) (e := l) (by rw [hH]; exact trivial) (.inl rfl) (fun b' u hb hu => (Heap.get?_update_other s.heap (Obj.mapSeq f) (Ne.symm hb)).trans hu) ⟨_, q⟩ ?_
 exact ⟨hz, its', _, hv, q⟩
theorem Inv.Zf0 {its : List Value} {t' : Nat} (I : Inv X pins σ H s) (hv : Vals ys its) (hz : ys.length ≤ sizeLine) :
  Inv X pins σ (upd H s.heap.objs.size (.lst ys)) { s with heap := s.heap.push { cls := .type "list", data := .seq its.toArray }, toks := t' } :=
 I.laid (fun _ _ q => Heap.get?_push_of_some _ q) (Nat.le_refl _) ⟨hz, its, 0, hv, Heap.get?_push_size _ rfl⟩
theorem Inv.fresh (I : Inv X pins σ H s) : H s.heap.objs.size = none := I.hok.fresh (Nat.le_refl _)
theorem Inv.Zdv (I : Inv X pins σ H s) (hH : H l = some (.lst xs)) : xs.length ≤ sizeLine ∧ ∃ (its : List Value) (n : Nat), Vals xs its ∧ xs.length = its.length ∧ s.heap.get? l = some { cls := .type "list", data := .seq its.toArray n } := by
 obtain ⟨z, its, n, r, e⟩ := I.hok l _ hH
 exact ⟨z, its, n, r, r.length, e⟩
theorem Nl {n : Nat} (h : n ≤ sizeLine) : Builtin.List.listTooLong n = false := by
 unfold Builtin.List.listTooLong
 exact decide_eq_false (by omega)
end
section
variable {X : Cx}
def SH : V → List V → Hp → VK → Prop := fun x vs H Q => ∃ l xs y, x = .ref l ∧ vs = [y] ∧ H l = some (.lst xs) ∧ xs.length < sizeLine ∧ Q .non (upd H l (.lst (xs ++ [y])))
theorem La : MtM X "list.append" SH := by
 intro pins s σ H x vs v us Q I rx rv h
 obtain ⟨l, xs, y, rfl, rfl, hH, hz, q⟩ := h
 cases rx
 obtain ⟨u, rfl, ru⟩ := rv.one
 obtain ⟨z, its, n, r, hl, e⟩ := I.Zdv hH
 refine call_meets F.slot_list_append ⟨_, e, rfl⟩ F.entry_list_append (F.args_list_append_2 _ _) (PySem.list_append l its.toArray n u (by rw [List.size_toArray]; omega)) ⟨e, ?_⟩
 refine ⟨.non, _, I.Zd2 (its' := its ++ [u]) hH e (by simp) (r.append (.cons ru .nil)) ?_, rfl, q⟩
 rw [List.length_append, List.length_singleton]
 omega
def RA : V → List V → Hp → VK → Prop := fun x vs H Q => ∃ l b xs zs, x = .ref l ∧ vs = [.ref b] ∧ H l = some (.lst xs) ∧ H b = some (.lst zs) ∧ xs.length + zs.length ≤ sizeLine ∧ Q .non (upd H l (.lst (xs ++ zs)))
theorem ET : MtM X "list.extend" RA := by
 intro pins s σ H x vs v us Q I rx rv h
 obtain ⟨l, b, xs, zs, rfl, rfl, hH, hB, hz, q⟩ := h
 cases rx
 obtain ⟨u, rfl, ru⟩ := rv.one
 cases ru
 obtain ⟨z, its, n, r, hl, e⟩ := I.Zdv hH
 obtain ⟨z2, its2, n2, r2, hl2, e2⟩ := I.Zdv hB
 have hsz : its.toArray.size + its2.toArray.size ≤ sizeLine := by rw [List.size_toArray, List.size_toArray]; omega
 have hlong : ¬ (!its.toArray.isEmpty && Builtin.List.listTooLong (its.toArray.size + its2.toArray.size)) = true := by
  rw [Nl hsz, Bool.and_false]
  exact Bool.false_ne_true
 refine call_meets F.slot_list_extend ⟨_, e, rfl⟩ F.entry_list_extend (F.args_list_extend_2 _ _)
  (AutoSeq1.list_extend_list_list_0 l its.toArray n b its2.toArray n2 hlong (by rw [List.size_toArray]; omega) (by omega)) ⟨e, e2, ?_⟩
 refine ⟨.non, _, I.Zd2 (its' := its ++ its2) hH e (by simp) (r.append r2) ?_, rfl, q⟩
 rw [List.length_append]
 omega
def Zgc : V → List V → Hp → VK → Prop := fun x vs H Q => ∃ l xs y, x = .ref l ∧ vs = [] ∧ H l = some (.lst xs) ∧ xs[xs.length - 1]? = some y ∧ Q y (upd H l (.lst xs.dropLast))
theorem ZcX : MtM X "list.pop" Zgc := by
 intro pins s σ H x vs v us Q I rx rv h
 obtain ⟨l, xs, y, rfl, rfl, hH, hy, q⟩ := h
 cases rx
 have hus := rv.zero
 subst hus
 obtain ⟨z, its, n, r, hl, e⟩ := I.Zdv hH
 obtain ⟨u, hu, ru⟩ := r.get hy
 have hy' : its.toArray[its.toArray.size - 1]? = some u := by
  show its.toArray[its.length - 1]? = some u
  rw [← Array.getElem?_toList, ← hl]
  exact hu
 refine call_meets F.slot_list_pop ⟨_, e, rfl⟩ F.entry_list_pop (F.args_list_pop_1 _) (MeetsSeq.list_pop_last l its.toArray n u hy' (by rw [List.size_toArray]; omega)) ⟨e, ?_⟩
 refine ⟨y, _, I.Zd2 (its' := its.dropLast) hH e ?_ r.dropLast ?_, ru, q⟩
 ·show its.toArray.eraseIdxIfInBounds (its.toArray.size - 1) = its.dropLast.toArray
  rw [List.size_toArray, List.eraseIdxIfInBounds_toArray, Ek]
 ·rw [List.length_dropLast]
  omega
def ZeU : V → List V → Hp → VK → Prop := fun x vs H Q => ∃ l xs i k y, x = .ref l ∧ vs = [.int i] ∧ H l = some (.lst xs) ∧ -(2 ^ 63) ≤ i ∧ i < 2 ^ 63 ∧ seqIndex? i xs.length = some k ∧ xs[k]? = some y ∧ Q y (upd H l (.lst (xs.eraseIdx k)))
def Zdx : V → List V → Hp → VK → Prop := fun x vs H Q => ∃ l xs, x = .ref l ∧ vs = [] ∧ H l = some (.lst xs) ∧ Q .non (upd H l (.lst xs.reverse))
def ZfG : V → List V → Hp → VK → Prop := fun x vs H Q => ∃ l xs, x = .ref l ∧ vs = [] ∧ H l = some (.lst xs) ∧ Q .non (upd H l (.lst []))
def ZgO : R2 := fun x y H Q => ∃ l b xs zs, x = .ref l ∧ y = .ref b ∧ H l = some (.lst xs) ∧ H b = some (.lst zs) ∧ xs.length + zs.length ≤ sizeLine ∧ ∀ p, H p = none → Q (.ref p) (upd H p (.lst (xs ++ zs)))
def ZgH : R2 := fun x y H Q => ∃ l k xs, x = .ref l ∧ y = .int k ∧ H l = some (.lst xs) ∧ -(2 ^ 63) ≤ k ∧ k < 2 ^ 63 ∧ xs.length * k.toNat ≤ sizeLine ∧
 ∀ p, H p = none → Q (.ref p) (upd H p (.lst (List.replicate k.toNat xs).flatten))
end
section
variable {prog : Program} {w : World} {A : Around} {E : Value → Shared → Prop} {s : Shared}
set_option maxRecDepth 100000 in
end
section
variable {X : Cx}
end
end L2
namespace L2
open PySem PySem.Spec PyProof.Rows
section
variable {κ : Type} [DecidableEq κ]
noncomputable def BR (kvs : List (κ × V)) (k : κ) : Option V := (kvs.find? fun kv => decide (kv.1 = k)).map (·.2)
noncomputable def putK (kvs : List (κ × V)) (k : κ) (v : V) : List (κ × V) :=
 if (kvs.any fun kv => decide (kv.1 = k)) = true then kvs.map (fun kv => if kv.1 = k then (kv.1, v) else kv) else kvs ++ [(k, v)]
noncomputable def Fj (kvs : List (κ × V)) (k : κ) : List (κ × V) := kvs.filter fun kv => decide (kv.1 ≠ k)
theorem Dy {p : κ × V} {r : List (κ × V)} {k : κ} (e : p.1 = k) : BR (p :: r) k = some p.2 := by simp [BR, List.find?_cons, e]
theorem CA {p : κ × V} {r : List (κ × V)} {k : κ} (e : ¬ p.1 = k) : BR (p :: r) k = BR r k := by simp [BR, List.find?_cons, e]
theorem Dp (k : κ) : ∀ kvs : List (κ × V), (kvs.any fun kv => decide (kv.1 = k)) = (BR kvs k).isSome
 | [] => rfl
 | p :: r => by
  rw [List.any_cons]
  by_cases e : p.1 = k
  ·simp only [Dy e, decide_eq_true e, Bool.true_or, Option.isSome_some]
  ·rw [CA e, decide_eq_false e, Bool.false_or]; exact Dp k r
theorem Zcn.Fu {o : Option V} {u : Option Value} (r : Zcn o u) : o.isSome = u.isSome := by
 cases o with
 | none => cases u with
  | none => rfl
  | some _ => exact (show False from r).elim
 | some _ => cases u with
  | none => exact (show False from r).elim
  | some _ => rfl
theorem KV.any {kvs : List (κ × V)} {vs : List (κ × Value)} (r : KV kvs vs) (k : κ) : (kvs.any fun kv => decide (kv.1 = k)) = vs.any fun kv => decide (kv.1 = k) := by
 unfold KV at r
 induction r with
 | nil => rfl
 | cons h t ih => rw [List.any_cons, List.any_cons, ih, h.1]
theorem KV.Zes {kvs : List (κ × V)} {vs : List (κ × Value)} (r : KV kvs vs) (k : κ) {y : V} {u : Value} (ry : RelV y u) :
  KV (kvs.map fun kv => if kv.1 = k then (kv.1, y) else kv) (vs.map fun kv => if kv.1 = k then (kv.1, u) else kv) := by
 unfold KV at r ⊢
 induction r with
 | nil => exact .nil
 | @cons p q ps qs h t ih =>
  rw [List.map_cons, List.map_cons]
  refine .cons ?_ ih
  obtain ⟨h1, h2⟩ := h
  by_cases e : p.1 = k
  ·rw [if_pos e, if_pos (h1.symm.trans e)]; exact ⟨h1, ry⟩
  ·rw [if_neg e, if_neg (fun z => e (h1.trans z))]; exact ⟨h1, h2⟩
theorem KV.put {kvs : List (κ × V)} {vs : List (κ × Value)} (r : KV kvs vs) (k : κ) {y : V} {u : Value} (ry : RelV y u) : KV (putK kvs k y) (stored vs k u) := by
 unfold putK stored
 rw [r.any k]
 by_cases e : (vs.any fun kv => decide (kv.1 = k)) = true
 ·rw [if_pos e, if_pos e]; exact r.Zes k ry
 ·rw [if_neg e, if_neg e]; exact Paired.snoc r ⟨rfl, ry⟩
theorem KV.drop {kvs : List (κ × V)} {vs : List (κ × Value)} (r : KV kvs vs) (k : κ) : KV (Fj kvs k) (without vs k) := by
 unfold KV at r ⊢
 unfold Fj without
 induction r with
 | nil => exact .nil
 | @cons p q ps qs h t ih =>
  obtain ⟨h1, h2⟩ := h
  rw [List.filter_cons, List.filter_cons]
  by_cases e : p.1 = k
  ·have a : ¬ decide (p.1 ≠ k) = true := by simp [e]
   have b : ¬ decide (q.1 ≠ k) = true := by simp [h1.symm.trans e]
   rw [if_neg a, if_neg b]; exact ih
  ·have e' : ¬ q.1 = k := fun z => e (h1.trans z)
   have a : decide (p.1 ≠ k) = true := by simp [e]
   have b : decide (q.1 ≠ k) = true := by simp [e']
   rw [if_pos a, if_pos b]; exact .cons ⟨h1, h2⟩ ih
theorem KV.length {kvs : List (κ × V)} {vs : List (κ × Value)} (r : KV kvs vs) : kvs.length = vs.length := Paired.length r
end
abbrev KT (H : Hp) : List (List Key × V) → List (List Key × Addr × Value) → Prop := Paired fun p q => p.1 = q.1 ∧ H q.2.1 = some (.tup (p.1.map kV)) ∧ RelV p.2 q.2.2
theorem KT.val {H : Hp} {kvs : List (List Key × V)} {xs : List (List Key × Addr × Value)} (r : KT H kvs xs) (k : List Key) : Zcn (BR kvs k) ((atKey xs k).map (·.2)) := by
 induction r with
 | nil => exact True.intro
 | @cons p q ps qs h t ih =>
  obtain ⟨h1, _, h2⟩ := h
  by_cases e : p.1 = k
  ·have e' : q.1 = k := h1.symm.trans e
   have b : atKey (q :: qs) k = some q.2 := by simp [atKey, List.find?_cons, e']
   rw [Dy e, b]; exact h2
  ·have e' : ¬ q.1 = k := fun z => e (h1.trans z)
   have b : atKey (q :: qs) k = atKey qs k := by simp [atKey, List.find?_cons, e']
   rw [CA e, b]; exact ih
theorem KT.Zes {H : Hp} {kvs : List (List Key × V)} {xs : List (List Key × Addr × Value)} (r : KT H kvs xs) (k : List Key) {y : V} {u : Value} (ry : RelV y u) :
  KT H (kvs.map fun kv => if kv.1 = k then (kv.1, y) else kv) (xs.map (putAt k u)) := by
 induction r with
 | nil => exact .nil
 | @cons p q ps qs h t ih =>
  rw [List.map_cons, List.map_cons]
  refine .cons ?_ ih
  obtain ⟨h1, h2, h3⟩ := h
  unfold putAt
  by_cases e : p.1 = k
  ·rw [if_pos e, if_pos (h1.symm.trans e)]; exact ⟨h1, h2, ry⟩
  ·rw [if_neg e, if_neg (fun z => e (h1.trans z))]; exact ⟨h1, h2, h3⟩
theorem KT.put {H : Hp} {kvs : List (List Key × V)} {xs : List (List Key × Addr × Value)} (r : KT H kvs xs) (k : List Key) {b : Addr} {y : V} {u : Value} (hb : H b = some (.tup (k.map kV))) (ry : RelV y u) :
  KT H (putK kvs k y) (storedH xs k b u) := by
 have e : (kvs.any fun kv => decide (kv.1 = k)) = (atKey xs k).isSome := by
  rw [Dp, (r.val k).Fu, Option.isSome_map]
 unfold putK storedH
 rw [e]
 by_cases q : (atKey xs k).isSome = true
 ·rw [if_pos q, if_pos q]; exact r.Zes k ry
 ·rw [if_neg q, if_neg q]; exact Paired.snoc r ⟨rfl, hb, ry⟩
section
variable {P : Program} {w : World} {H : Hp} {h : Heap} {a : Addr}
end
def Mf (H : Hp) (a : Addr) (y : V) (r : Option V) : Prop :=
 (∃ kvs k, Rd H a (.dK kvs) ∧ y = kV k ∧ r = BR kvs k) ∨ ∃ kvs k b, Rd H a (.dT kvs) ∧ y = .ref b ∧ H b = some (.tup (k.map kV)) ∧ r = BR kvs k
def T6 (H : Hp) (a : Addr) (y v : V) (H' : Hp) : Prop :=
 (∃ kvs k, H a = some (.dK kvs) ∧ y = kV k ∧ kvs.length < sizeLine ∧ H' = upd H a (.dK (putK kvs k v))) ∨
 ∃ kvs k b, H a = some (.dT kvs) ∧ y = .ref b ∧ H b = some (.tup (k.map kV)) ∧ kvs.length < sizeLine ∧ H' = upd H a (.dT (putK kvs k v))
theorem Mf.k {H : Hp} {a : Addr} {kvs : List (Key × V)} {k : Key} (e : H a = some (.dK kvs)) : Mf H a (kV k) (BR kvs k) := .inl ⟨kvs, k, .inl e, rfl, rfl⟩
theorem Mf.t {H : Hp} {a b : Addr} {kvs : List (List Key × V)} {k : List Key} (e : H a = some (.dT kvs)) (eb : H b = some (.tup (k.map kV))) : Mf H a (.ref b) (BR kvs k) := .inr ⟨kvs, k, b, .inl e, rfl, eb, rfl⟩
theorem T6.k {H : Hp} {a : Addr} {kvs : List (Key × V)} {k : Key} {v : V} (e : H a = some (.dK kvs)) (hl : kvs.length < sizeLine) : T6 H a (kV k) v (upd H a (.dK (putK kvs k v))) := .inl ⟨kvs, k, e, rfl, hl, rfl⟩
theorem T6.t {H : Hp} {a b : Addr} {kvs : List (List Key × V)} {k : List Key} {v : V} (e : H a = some (.dT kvs)) (eb : H b = some (.tup (k.map kV))) (hl : kvs.length < sizeLine) :
  T6 H a (.ref b) v (upd H a (.dT (putK kvs k v))) := .inr ⟨kvs, k, b, e, rfl, eb, hl, rfl⟩
section
variable {X : Cx} {pins : List (Addr × Obj)} {σ : St} {H : Hp} {s : Shared} {a : Addr} {y v : V} {u r : Value} {o : Option V} {A : Around} {E : Value → Shared → Prop}
end
section
variable {X : Cx} {pins : List (Addr × Obj)} {σ : St} {H : Hp} {s : Shared} {a : Addr} {kvs : List (Key × V)} {k : Key} {u : Value} {A : Around} {E : Value → Shared → Prop}
end
def ZgW (i : Expr) : Prop := ∀ ov iv, subscripted i false ov iv = operate [ov, iv] (getItem ov iv)
def Zf2 (td ty : TE) : TE := fun σ H Q => td σ H fun x H1 => ty σ H1 fun y H2 => ∃ a v, x = .ref a ∧ Mf H2 a y (some v) ∧ Q v H2
def ZgT (ty td : TE) : TE := fun σ H Q => ty σ H fun y H1 => td σ H1 fun x H2 => ∃ a o, x = .ref a ∧ Mf H2 a y o ∧ Q (.bl o.isSome) H2
def ZdV (ty td : TE) : TE := fun σ H Q => ty σ H fun y H1 => td σ H1 fun x H2 => ∃ a o, x = .ref a ∧ Mf H2 a y o ∧ Q (.bl (!o.isSome)) H2
def Zf4 (td ty tv : TE) : TS := fun D σ H => tv σ H fun v H1 => td σ H1 fun x H2 => ty σ H2 fun y H3 => ∃ a H4, x = .ref a ∧ T6 H3 a y v H4 ∧ D.nx σ H4
def Zgi (td ty tv : TE) (rd : V → V → Hp → VK → Prop) : TS := fun D σ H => td σ H fun x H1 => ty σ H1 fun y H2 => ∃ a v, x = .ref a ∧ Mf H2 a y (some v) ∧
 tv σ H2 fun y2 H3 => rd v y2 H3 fun z H4 => ∃ H5, T6 H4 a y z H5 ∧ D.nx σ H5
def ZgB (td ty : TE) : TS := fun D σ H => td σ H fun x H1 => ty σ H1 fun y H2 => ∃ a kvs k, x = .ref a ∧ H2 a = some (.dK kvs) ∧ y = kV k ∧ (BR kvs k).isSome = true ∧ D.nx σ (upd H2 a (.dK (Fj kvs k)))
section
variable {X : Cx} {o i e value : Expr} {pos pos' tpos : Pos} {td ty tv : TE}
end
def ZeZ : TE := fun _ H Q => ∀ p, H p = none → Q (.ref p) (upd H p (.dK []))
def Zft : TE := fun _ H Q => ∀ p, H p = none → Q (.ref p) (upd H p (.dT []))
section
variable {X : Cx} {pos : Pos}
end
def HG : List (TE × TE) → St → Hp → (List (V × V) → Hp → Prop) → Prop
 | [], _, H, Q => Q [] H
 | (tk, tv) :: r, σ, H, Q => tk σ H fun x H1 => tv σ H1 fun y H2 => HG r σ H2 fun ps H3 => Q ((x, y) :: ps) H3
abbrev VV : List (V × V) → List (Value × Value) → Prop := Paired fun p q => RelV p.1 q.1 ∧ RelV p.2 q.2
def PPs (X : Cx) (pos : Pos) (keys : List (Option Expr)) (values : List Expr) (trs : List (TE × TE)) : Prop :=
 ∀ (pins : List (Addr × Obj)) (s : Shared) (σ : St) (H : Hp) (Q : List (V × V) → Hp → Prop), Inv X pins σ H s → HG trs σ H Q →
  wpAny (model X.prog X.w) X.A (evalPairs (pairTrees keys values X.env pos)) (fun vs s' => ∃ ps H', Inv X pins σ H' s' ∧ VV ps vs ∧ Q ps H') X.xe s
noncomputable def ZbR (kvs more : List (Key × V)) : List (Key × V) := more.foldl (fun acc kv => putK acc kv.1 kv.2) kvs
def Zgx (trs : List (TE × TE)) : TE := fun σ H Q => ∀ p, H p = none → HG trs σ (upd H p (.dK [])) fun ps H2 => H2 p = some (.dK []) ∧ ∃ kvs : List (Key × V), ps = kvs.map (fun kv => (kV kv.1, kv.2)) ∧ kvs.length ≤ 15 ∧ Q (.ref p) (upd H2 p (.dK (ZbR [] kvs)))
structure M1 (X : Cx) (o : Expr) (m : Str) (apos : Pos) (e : Expr) (cpos : Pos) : Prop where
 base : attributeBase o m X.env (eval o X.env) = eval o X.env
 few : ((backTo cpos (starEach [e] X.env)).all (fun x => !x.1) && (backToKw cpos (keywordEach [] X.env)).all (fun x => x.1.isSome)
  && decide (([e] : List Expr).length + ([] : List Keyword).length + (if ([] : List Keyword).isEmpty then 0 else 1) < 30)) = true
 line : (apos.endLine == cpos.line) = true
 trees : backTo cpos (starEach [e] X.env) = [(false, eval e X.env)]
structure M2 (X : Cx) (o : Expr) (m : Str) (apos : Pos) (e f : Expr) (cpos : Pos) : Prop where
 base : attributeBase o m X.env (eval o X.env) = eval o X.env
 few : ((backTo cpos (starEach [e, f] X.env)).all (fun x => !x.1) && (backToKw cpos (keywordEach [] X.env)).all (fun x => x.1.isSome)
  && decide (([e, f] : List Expr).length + ([] : List Keyword).length + (if ([] : List Keyword).isEmpty then 0 else 1) < 30)) = true
 line : (apos.endLine == cpos.line) = true
 trees : backTo cpos (starEach [e, f] X.env) = [(false, eval e X.env), (false, eval f X.env)]
def IsD (H : Hp) (a : Addr) : Prop := (∃ kvs, Rd H a (.dK kvs)) ∨ ∃ kvs, Rd H a (.dT kvs)
section
variable {X : Cx} {pins : List (Addr × Obj)} {σ : St} {H : Hp} {s : Shared} {a : Addr} {y d : V} {u r : Value} {o : Option V} {A : Around} {E : Value → Shared → Prop}
end
def ZfD (td ty : TE) : TE := fun σ H Q => td σ H fun x H1 => ∃ a, x = .ref a ∧ IsD H1 a ∧ ty σ H1 fun y H2 => ∃ o, Mf H2 a y o ∧ Q (o.getD .non) H2
def ZfL (td ty tx : TE) : TE := fun σ H Q => td σ H fun x H1 => ∃ a, x = .ref a ∧ IsD H1 a ∧ ty σ H1 fun y H2 => tx σ H2 fun z H3 => ∃ o, Mf H3 a y o ∧ Q (o.getD z) H3
def Ze6 (td ty : TE) : TE := fun σ H Q => td σ H fun x H1 => ∃ a, x = .ref a ∧ IsD H1 a ∧ ty σ H1 fun y H2 => ∃ kvs k v, H2 a = some (.dK kvs) ∧ y = kV k ∧ BR kvs k = some v ∧ Q v (upd H2 a (.dK (Fj kvs k)))
def Zfv (td ty tx : TE) : TE := fun σ H Q => td σ H fun x H1 => ∃ a, x = .ref a ∧ IsD H1 a ∧ ty σ H1 fun y H2 => tx σ H2 fun z H3 => ∃ kvs k, H3 a = some (.dK kvs) ∧ y = kV k ∧
 (∀ v, BR kvs k = some v → Q v (upd H3 a (.dK (Fj kvs k)))) ∧ (BR kvs k = none → Q z H3)
section
variable {X : Cx} {o e f : Expr} {apos cpos : Pos} {td ty tx : TE}
end
section
variable {X : Cx} {pins : List (Addr × Obj)} {σ : St} {H : Hp} {s : Shared} {a : Addr} {kvs : List (Key × V)} {A : Around} {E : Value → Shared → Prop}
end
section
variable {X : Cx} {pins : List (Addr × Obj)} {σ : St} {H : Hp} {s : Shared} {a : Addr} {y : V} {u : Value} {A : Around} {E : Value → Shared → Prop}
end
end L2
namespace Att
open PySem PySem.W PySem.Calls PyProof.Rows
theorem Kc {P : Params} {h : Heap} : ∀ (ns : List Int) (vs : List Value), WellAll P h vs (ns.map WData.int) → IntsAre vs ns := by
 intro ns
 induction ns with
 | nil =>
  intro vs w
  rw [List.map_nil] at w
  cases w
  exact .nil
 | cons n ns ih =>
  intro vs w
  rw [List.map_cons] at w
  cases w with
  | cons a b =>
   cases a
   exact .cons _ _ (ih _ b)
theorem HI {l : OpenLaw} {n : Nat} (hn : l.most = some n) {P : Params} {h : Heap} {args : List WData} {vals : List Value}
  (hpre : l.row.toRowW.claim.pre args = true) (hwl : WellAll P h vals args) :
  ∃ a vs ns, vals = [Value.ref a] ∧ args = [WData.list (ns.map WData.int)] ∧ h.get? a = some { cls := .type "list", data := .seq vs.toArray } ∧ IntsAre vs ns ∧ ns.length ≤ n := by
 have hsh : WShape.hasAll [] args [.list .int] = true := (pre_splitW hpre).1
 have hc : l.pre.holds [] { args := args } = true := (pre_splitW hpre).2
 obtain ⟨d, r, rfl, h1, h2⟩ := hasAllW_cons hsh
 obtain rfl := hasAllW_nil h2
 obtain ⟨xs, rfl, h3⟩ := hasW_list h1
 obtain ⟨ns, rfl⟩ := items_int h3
 have hlen : ns.length ≤ n := by
  unfold OpenLaw.pre at hc
  have h4 : (WTm.not (.lt (.lit (.int (n : Int))) (.len (.arg 0)))).holds [] { args := [.list (ns.map .int)] } = true := by
   have h4 := (holds_andW hc).1
   rw [hn] at h4
   exact h4
  have h5 := condW_of h4 (w_not (w_lt w_lit (w_len_list (w_arg rfl))))
  rw [List.length_map] at h5
  refine Nat.le_of_not_lt fun q => ?_
  have q' : (n : Int) < ((ns.length : Nat) : Int) := by omega
  first
   | (rw [decide_eq_true q'] at h5; exact absurd h5 (by decide))
   | (simp at h5; omega)
 cases hwl with
 | cons w1 w2 =>
  cases w2
  cases w1 with
  | list ho hall => exact ⟨_, _, ns, rfl, rfl, ho, Kc ns _ hall, hlen⟩
theorem Lr (l : OpenLaw) (args : List WData) : l.row.toRowW.claim.post args (.bool true) args = true :=
 postW_of (r := l.row.toRowW) (X := (true == true))
  (show WShape.has [] (.bool true) .bool = true by first | rfl | decide | simp [WShape.has, WShape.arms, WShape.armsAll])
  (show (WTm.eq .res (.lit (.bool true))).value [] { args := args, res := some (.bool true), after := args } = some (.bool (true == true)) from w_eq_bool (w_res rfl) w_lit) rfl
theorem Bj {l : OpenLaw} {n : Nat} {q : Program} {loose : List Str} {XP : (Str → Option Value) → Heap → Prop} {YP : World → Heap → Prop} {d : DefRec}
  (hn : l.most = some n) (hdf : d.params.defaults = [])
  (call : ∀ (w : World) (s₀ s₁ : Shared) (mg mb : Str → Option Value) (fa : Addr) (o : Obj) (pm cd doc : Value) (a : Addr) (vs : List Value) (ns : List Int),
   Ground q loose [] XP w s₀ mg mb s₁.heap → YP w s₁.heap →
   s₁.heap.get? fa = some o → o.data = .func (docDef d.name d.params d.body d.scope pm cd doc) → s₁.heap.CodeRec cd d.name → mg d.name = some (.ref fa) →
   s₁.heap.get? a = some { cls := .type "list", data := .seq vs.toArray } → IntsAre vs ns → ns.length ≤ n → s₁.gens = #[] →
   codeAny (model l.prog w) callerA (.call (.ref fa) ⟨[.ref a], []⟩) (fun r s' => r = .ok (.ret (.bool true)) ∧ OldK s₁.heap s'.heap ∧ s'.os = s₁.os ∧ AllBare s'.gens) s₁) :
  WalkO q loose XP YP l.row.toRowW d [] (fun f vs => PySem.call f vs) := by
 intro w s₀ s₁ mg mb G Y fa o pm cd doc dV kV ho hd hcd hD hmg hg args vals as hpre hlay hrd hwl hlo
 obtain rfl : dV = .none := Dflts.none hD hdf
 obtain rfl : kV = .none := Dflts.noKw hD
 obtain ⟨a, vs, ns, rfl, rfl, hobj, hints, hlen⟩ := HI hn hpre hwl
 refine enter_call (codeAny_mono (call w s₀ s₁ mg mb fa o pm cd doc a vs ns G Y ho (fd_plain hd) hcd hmg hobj hints hlen hg) fun r s' hq => ?_)
 obtain ⟨rfl, h2, h3, h4⟩ := hq
 exact ⟨.inl ⟨.bool true, .bool true, [], rfl, fun _ => rfl, .bool true, Lr l _, fun _ => ⟨List.Pairwise.nil, fun _ hm => (nomatch hm)⟩⟩, h2, h3, h4⟩
section
variable {prog : Program} {w : World} {A : Around} {E : Value → Shared → Prop} {s : Shared} {K : Frag}
noncomputable def Ze5 (h : Heap) : Heap := { h with objs := #[] }
noncomputable def ledger (h : Heap) (L d : Addr) : List (Addr × Obj) := (List.range h.objs.size).filterMap fun a => if a = L ∨ a = d then none else (h.get? a).map fun o => (a, o)
end
end Att
namespace L2
open PySem PySem.Spec PyProof.Rows
theorem YL : ∀ {vs : List Value} {ns : List Int}, IntsAre vs ns → Vals (ns.map V.int) vs
 | _, _, .nil => .nil
 | _, _, .cons n t h => .cons ⟨t, rfl⟩ (YL h)
def Zds (H : Hp) : Prop := ∀ b, H b = none ∨ ∃ o xs, H b = some (.frz o (.lst xs))
theorem Pe {P : Program} {w : World} {K : PySem.W.Frag} {mg mb : Str → Option Value} {CX : CXT} {k : Nat} {fa a : Addr} {fd : FuncData} {x : Str} {sp : Sp} {s₁ : Shared} {vs : List Value} {ns : List Int}
  (KX : K.In s₁.heap) (hns : s₁.heap.Ns mainGlobals mg) (hb : s₁.heap.Ns builtinsNs mb) (hbb : ∀ x : Str, x ≠ "__name__" → mb x = bootBuiltins x) (hlim : s₁.heap.NoLimit) (hg : s₁.gens = #[])
  (ha : s₁.heap.get? a = some { cls := .type "list", data := .seq vs.toArray }) (hi : IntsAre vs ns) (hl : ns.length ≤ sizeLine) (hr : Xw k callerA)
  (F : ∀ base : Heap, K.In base → base.Ns mainGlobals mg → ZD P w K mg base CX k fa fd [x] sp) (hbind : ∀ (s : Shared) (u : Value), BindsTo s fd ⟨[u], []⟩ [(x, u)])
  (hsp : ∀ H : Hp, Zds H → SqL K H a (ns.map V.int) → sp [.ref a] H (fun v _ => v = .bl true) fun _ _ _ => False)
  (hCX : ∀ H e s', CX [] H s₁ (fun _ _ _ => False) e s' → False) :
  codeAny (model P w) callerA (.call (.ref fa) ⟨[.ref a], []⟩) (fun r s' => r = .ok (.ret (.bool true)) ∧ OldK s₁.heap s'.heap ∧ s'.os = s₁.os ∧ AllBare s'.gens) s₁ := by
 have rv := YL hi
 have lenV := hi.length
 have core : ∀ H : Hp, Zds H → SqL K H a (ns.map V.int) → HOk P w H s₁.heap → (∀ b, H b ≠ none → b = a) → (H a ≠ none → K.lookup a = none) →
   codeAny (model P w) callerA (.call (.ref fa) ⟨[.ref a], []⟩) (fun r s' => r = .ok (.ret (.bool true)) ∧ OldK s₁.heap s'.heap ∧ s'.os = s₁.os ∧ AllBare s'.gens) s₁ := by
  intro H hO hS hok hA hK
  have base_of : ∀ {b : Addr} {o : Obj}, s₁.heap.get? b = some o → H b = none → (MF s₁.heap H).get? b = some o := fun e n => Mi e n
  have noA : ∀ {b : Addr} {o : Obj} {es : Array DictEntry} {ep : Nat}, s₁.heap.get? b = some o → o.data = .dict es ep → H b = none := fun {b o es ep} e d => by
   cases q : H b with
   | none => rfl
   | some u =>
    have e' : b = a := hA b (by rw [q]; simp)
    subst e'
    rw [ha] at e; cases e
    have d' : Data.seq vs.toArray _ = Data.dict es ep := d
    cases d'
  have nsK : ∀ {b : Addr} {m : Str → Option Value}, s₁.heap.Ns b m → (MF s₁.heap H).Ns b m := fun {b m} ⟨o, es, ep, e, d, r⟩ => ⟨o, es, ep, base_of e (noA e d), d, r⟩
  have hKb : K.In (MF s₁.heap H) := fun b o e => base_of (KX b o e) (by
   cases q : H b with
   | none => rfl
   | some u =>
    have e' : b = a := hA b (by rw [q]; simp)
    subst e'
    rw [hK (by rw [q]; simp)] at e; cases e)
  have hM : Mod K mg (MF s₁.heap H) := ⟨hKb, nsK hns, ⟨mb, nsK hb, hbb⟩, let ⟨mc, h1, h2⟩ := hlim; ⟨mc, nsK h1, h2⟩⟩
  have e0 : Zdn P w K mg (MF s₁.heap H) callerA [] s₁ H := ⟨rfl, hM, fun b o e => TN e, Nat.le_of_eq (Lv _ _), trivial, fun b hb => absurd (show b ∈ ([] : List Addr) from hb) (by simp), hok, .of_eq hg⟩
  refine codeAny_mono ((F _ hKb (nsK hns)).run callerA [] s₁ H ⟨[.ref a], []⟩ [.ref a] [.ref a] _ _ hr e0 (hbind s₁ (.ref a)) (.cons rfl .nil) (hsp H hO hS)) fun r s' h => ?_
  cases r with
  | error e => exact (hCX H e s' h).elim
  | ok fl =>
   cases fl with
   | next => exact False.elim h
   | brk => exact False.elim h
   | cont => exact False.elim h
   | ret u =>
    obtain ⟨v, H', os, bare, un, hok', r', q⟩ := h
    have q' : v = .bl true := q
    subst q'
    obtain rfl : u = Value.bool true := r'
    refine ⟨rfl, OldK.of_keep fun b o e => ?_, os, bare⟩
    cases q : H b with
    | none => exact un.keep b o e q (by intro z; exact absurd (show b ∈ ([] : List Addr) from z) (by simp)) (by simp)
    | some u =>
     rcases hO b with z | ⟨ob, xs, z⟩
     ·rw [q] at z; cases z
     ·have z2 := un.frzs b ob _ z
      obtain ⟨e1, _⟩ := hok b _ z
      obtain ⟨e2, _⟩ := hok' b _ z2
      rw [e] at e1; cases e1
      exact e2
 cases hk : K.lookup a with
 | some o =>
  have e := KX a o hk
  rw [ha] at e
  cases e
  refine core (fun _ => none) (fun _ => .inl rfl) (.inr ⟨_, vs.toArray, _, hk, rfl, rfl, rfl, by rw [List.size_toArray, lenV]; exact hl, by simpa using rv⟩) (fun b u z => by have z' : (none : Option HO) = some u := z; cases z') (fun b z => absurd rfl z) fun z => absurd rfl z
 | none =>
  refine core (fun b => if b = a then some (.frz { cls := .type "list", data := .seq vs.toArray } (.lst (ns.map V.int))) else none) (fun b => ?_) (.inl (.inr ⟨{ cls := .type "list", data := .seq vs.toArray }, if_pos rfl⟩)) (fun b u z => ?_) (fun b z => ?_) fun _ => hk
  ·by_cases hb : b = a
   ·exact .inr ⟨_, _, if_pos hb⟩
   ·exact .inl (if_neg hb)
  ·by_cases hb : b = a
   ·have z' := (if_pos hb).symm.trans z
    cases z'
    subst hb
    exact ⟨ha, by rw [List.length_map]; exact hl, vs, _, rv, ha⟩
   ·have z' := (if_neg hb).symm.trans z
    cases z'
  ·by_cases hb : b = a
   ·exact hb
   ·exact absurd (if_neg hb) z
end L2
namespace L2
open PySem PySem.Spec PyProof.Rows
noncomputable abbrev KOf {K : PySem.W.Frag} {h : Heap} (_ : K.In h) : PySem.W.Frag := K
theorem RV {l : PySem.W.OpenLaw} {n k : Nat} {q : Program} {loose : List Str} {XP : (Str → Option Value) → Heap → Prop} {YP : World → Heap → Prop} {d : DefRec} {K : Params → PySem.W.Frag} {CX : World → CXT} {sp : World → Sp} {x : Str}
  (hn : l.most = some n) (hn2 : n ≤ sizeLine) (hdf : d.params.defaults = []) (hr : Xw k callerA)
  (hY : ∀ (w : World) (h : Heap), YP w h → (K w.params).In h)
  (F : ∀ (w : World) (mg : Str → Option Value) (fa : Addr) (h : Heap), (K w.params).In h → h.Ns mainGlobals mg → mg d.name = some (.ref fa) →
   ∃ fd : FuncData, (∀ (s : Shared) (u : Value), BindsTo s fd ⟨[u], []⟩ [(x, u)]) ∧
    ∀ base : Heap, (K w.params).In base → base.Ns mainGlobals mg → ZD l.prog w (K w.params) mg base (CX w) k fa fd [x] (sp w))
  (hsp : ∀ (w : World) (H : Hp) (a : Addr) (ns : List Int), ns.length ≤ n → Zds H → SqL (K w.params) H a (ns.map V.int) → sp w [.ref a] H (fun v _ => v = .bl true) fun _ _ _ => False)
  (hCX : ∀ (w : World) (H : Hp) (s : Shared) (e : Value) (s' : Shared), CX w [] H s (fun _ _ _ => False) e s' → False) :
  PySem.W.WalkO q loose XP YP l.row.toRowW d [] (fun f vs => PySem.call f vs) := by
 refine Att.Bj hn hdf fun w s₀ s₁ mg mb fa o pm cd doc a vs ns G Y ho hd hcd hmg hobj hints hlen hg => ?_
 have KX := hY w _ Y
 obtain ⟨fd, hb, hF⟩ := F w mg fa _ KX G.T.g hmg
 exact Pe KX G.T.g G.T.b G.T.builtins G.T.nolimit hg hobj hints (Nat.le_trans hlen hn2) hr hF hb (fun H hO hS => hsp w H a ns hlen hO hS) fun H e s' => hCX w H s₁ e s'
end L2
namespace L2
open PySem PySem.Spec PyProof.Rows
noncomputable def inClass (s : Stmt) (j : Nat) : Stmt := match s with
 | .ClassDef _ _ _ body _ _ _ _ _ _ _ => body.getD j (.Pass ⟨0, 0, 0, 0⟩)
 | _ => .Pass ⟨0, 0, 0, 0⟩
noncomputable def Zt (s : Stmt) : Arguments := match s with
 | .FunctionDef _ a _ _ _ _ _ _ _ _ => a
 | _ => { posonlyargs := [], args := [], vararg := none, kwonlyargs := [], kw_defaults := [], kwarg := none, defaults := [] }
noncomputable def Zq (s : Stmt) : List Stmt := match s with
 | .FunctionDef _ _ b _ _ _ _ _ _ _ => b
 | _ => []
noncomputable def Ze (s : Stmt) : Scope := match s with
 | .FunctionDef _ _ _ _ _ _ sc _ _ _ => sc
 | _ => { kind := .function, names := [], isGenerator := false, isCoroutine := false }
abbrev CX0 : CXT := fun _ _ _ _ _ _ => False
abbrev E0 : XK := fun _ _ _ => False
theorem Zp {X : Cx} : Passes CX0 X E0 := fun _ _ _ _ _ _ _ h => h.elim
structure Fun (K : PySem.W.Frag) (x qual : Str) (st : Stmt) (f : Addr) (fd : FuncData) : Prop where
 ex : ∃ (oc : Value) (od : Option Addr) (kV doc pm : Value) (an : Option Addr) (cdv ct : Value) (osl : Array (Option Value)),
  fd = PySem.W.fnOf x qual (Zt st) (Zq st) (Ze st) .none kV doc pm an cdv ct ∧ K.lookup f = some ⟨oc, od, .func fd, osl⟩ ∧ PySem.W.codeIn K cdv qual = true
 kp : PySem.W.keepIn K (.ref f) = true
section
variable {P : Program} {w : World} {K : PySem.W.Frag} {mg : Str → Option Value} {base : Heap}
theorem Fun.ok {x qual : Str} {st : Stmt} {f : Addr} {fd : FuncData} {N ps : List Str} {k : Nat} {sp : Sp} (F : Fun K x qual st f fd) (S : Zr N ps (Ze st)) (len : ∀ vs H Q E, sp vs H Q E → vs.length = ps.length)
  (hbody : ∀ (cdv : Value) (A : Around) (outer : List Env) (s : Shared) (H : Hp) (vs : List V) (Q : VK) (E : XK), Xw k (A.deeper (envOfC qual (Ze st) s.heap.objs.size f cdv)) → sp vs H Q E →
   ∃ t, PSs (PM CX0 P w K mg base N qual (Ze st) f cdv A outer s H E).nox (Zq st) t ∧ t { nx := fun _ H' => Q .non H', rt := Q } (start N vs) H) : ZD P w K mg base CX0 (k + 1) f fd ps sp := by
 obtain ⟨oc, od, kV, doc, pm, an, cdv, ct, osl, rfl, lk, hcd⟩ := F.ex
 refine ZeR lk hcd S len fun A outer s H vs Q E hr hsp => ?_
 obtain ⟨t, h, q⟩ := hbody cdv A outer s H vs Q E hr hsp
 exact ⟨t, h.nox, q⟩
theorem Fun.binds {x qual : Str} {st : Stmt} {f : Addr} {fd : FuncData} {ps : List Str} (F : Fun K x qual st f fd)
  (h : ∀ (kV doc pm : Value) (an : Option Addr) (cdv ct : Value) (us : List Value), us.length = ps.length → bindArgs (PySem.W.fnOf x qual (Zt st) (Zq st) (Ze st) .none kV doc pm an cdv ct) ⟨us, []⟩ = pure (ps.zip us)) : Binds K fd ps [] := by
 obtain ⟨oc, od, kV, doc, pm, an, cdv, ct, osl, rfl, lk, hcd⟩ := F.ex
 exact .all (h kV doc pm an cdv ct)
theorem ZA {x qual : Str} {st : Stmt} {f : Addr} {oc : Value} {od an : Option Addr} {osl : Array (Option Value)} {kV doc pm cdv ct : Value} (l : K.lookup f = some ⟨oc, od, .func (PySem.W.fnOf x qual (Zt st) (Zq st) (Ze st) .none kV doc pm an cdv ct), osl⟩)
  (c : PySem.W.codeIn K cdv qual = true) (k : PySem.W.keepIn K (.ref f) = true) : Fun K x qual st f (PySem.W.fnOf x qual (Zt st) (Zq st) (Ze st) .none kV doc pm an cdv ct) := ⟨⟨oc, od, kV, doc, pm, an, cdv, ct, osl, rfl, l, c⟩, k⟩
end
section
variable {X : Cx}
end
def Zaa (H H' : Hp) : Prop := ∀ b o, H b = some o → H' b = some o
theorem Zaa.refl (H : Hp) : Zaa H H := fun _ _ h => h
theorem Zaa.trans {H H1 H2 : Hp} (a : Zaa H H1) (b : Zaa H1 H2) : Zaa H H2 := fun c o h => b c o (a c o h)
end L2
namespace DL
open PySem PySem.Spec PyProof.Rows L2
inductive OO where
 | lst (ds : List PyData)
  | dct (ks : List (List Key))
  | dtv (kvs : List (List Key × PyData))
  | dkv (kvs : List (Key × PyData))
  | ext (φ : Heap → Prop)
abbrev Mp := Addr → Option OO
noncomputable def Z8 (M : Mp) (a : Addr) (o : OO) : Mp := fun b => if b = a then some o else M b
noncomputable def Ku (M : Mp) (a : Addr) : Mp := fun b => if b = a then none else M b
theorem ZU {M : Mp} {a : Addr} {o : OO} : Z8 M a o a = some o := by unfold Z8; rw [if_pos rfl]
theorem Qy {M : Mp} {a b : Addr} {o : OO} (h : b ≠ a) : Z8 M a o b = M b := by unfold Z8; rw [if_neg h]
theorem Ls {M : Mp} {a : Addr} {o u : OO} : Z8 (Z8 M a o) a u = Z8 M a u := by
 funext b; unfold Z8; split <;> rfl
theorem G5 {M : Mp} {a : Addr} : Ku M a a = none := by unfold Ku; rw [if_pos rfl]
theorem BU {M : Mp} {a b : Addr} (h : b ≠ a) : Ku M a b = M b := by unfold Ku; rw [if_neg h]
noncomputable def kD : Key → PyData
 | .inl i => .int i
 | .inr x => .str x
def KTu (K : PySem.W.Frag) (a : Addr) (xs : List V) : Prop :=
 ∃ (o : Obj) (its : Array Value) (n : Nat), K.lookup a = some o ∧ o.cls = .type "tuple" ∧ o.data = .seq its n ∧ its.size ≤ sizeLine ∧ Vals xs its.toList
def KLs (K : PySem.W.Frag) (a : Addr) (xs : List V) : Prop :=
 ∃ (o : Obj) (its : Array Value) (n : Nat), K.lookup a = some o ∧ o.cls = .type "list" ∧ o.dict = none ∧ o.data = .seq its n ∧ its.size ≤ sizeLine ∧ Vals xs its.toList
def TupAt (K : PySem.W.Frag) (M : Mp) (H : Hp) (a : Addr) (xs : List V) : Prop := (M a = none ∧ Rd H a (.tup xs)) ∨ KTu K a xs
def LstAt (K : PySem.W.Frag) (M : Mp) (H : Hp) (a : Addr) (xs : List V) : Prop := (M a = none ∧ Rd H a (.lst xs)) ∨ KLs K a xs
theorem TupAt.sq {K : PySem.W.Frag} {M : Mp} {H : Hp} {a : Addr} {xs : List V} (h : TupAt K M H a xs) : SqT K H a xs := by
 rcases h with ⟨_, h⟩ | h
 ·exact .inl h
 ·exact .inr h
theorem LstAt.sq {K : PySem.W.Frag} {M : Mp} {H : Hp} {a : Addr} {xs : List V} (h : LstAt K M H a xs) : SqL K H a xs := by
 rcases h with ⟨_, h⟩ | h
 ·exact .inl h
 ·exact .inr h
mutual
inductive Dt (K : PySem.W.Frag) (M : Mp) (H : Hp) : V → PyData → Prop
 | non : Dt K M H .non .none
 | bl (b : Bool) : Dt K M H (.bl b) (.bool b)
 | int (i : Int) : Dt K M H (.int i) (.int i)
 | str (x : Str) : Dt K M H (.str x) (.str x)
 | tup {a : Addr} {xs : List V} {ds : List PyData} : TupAt K M H a xs → Dts K M H xs ds → Dt K M H (.ref a) (.tuple ds)
 | lst {a : Addr} {xs : List V} {ds : List PyData} : LstAt K M H a xs → Dts K M H xs ds → Dt K M H (.ref a) (.list ds)
 | dK {a : Addr} {kvs : List (Key × V)} {ds : List PyData} : M a = none → H a = some (.dK kvs) → Dts K M H (kvs.map (·.2)) ds → Dt K M H (.ref a) (.dict ((kvs.map fun kv => kD kv.1).zip ds))
 | dT {a : Addr} {kvs : List (List Key × V)} {ds : List PyData} : M a = none → H a = some (.dT kvs) → Dts K M H (kvs.map (·.2)) ds → Dt K M H (.ref a) (.dict ((kvs.map fun kv => PyData.tuple (kv.1.map kD)).zip ds))
 | dX {a b : Addr} {φ : Heap → Prop} {v : V} {dk d : PyData} : M a = none → H a = some (.ext φ) → (a == sysModules) = false →
   (∀ h, φ h → ∃ o es n u, h.get? a = some o ∧ o.cls = .type "dict" ∧ o.data = .dict es n ∧ es.toList.map (·.key) = [.ref b] ∧ es.toList.map (·.val) = [u] ∧ RelV v u) → Dt K M H (.ref b) dk → Dt K M H v d → Dt K M H (.ref a) (.dict [(dk, d)])
inductive Dts (K : PySem.W.Frag) (M : Mp) (H : Hp) : List V → List PyData → Prop
 | nil : Dts K M H [] []
 | cons {x : V} {xs : List V} {d : PyData} {ds : List PyData} : Dt K M H x d → Dts K M H xs ds → Dts K M H (x :: xs) (d :: ds)
end
structure Step (M : Mp) (H : Hp) (M' : Mp) (H' : Hp) : Prop where
 keep : ∀ b o, M b = none → H b = some o → H' b = some o
 free : ∀ b o, M b = none → H b = some o → M' b = none
theorem Step.refl {M : Mp} {H : Hp} : Step M H M H := ⟨fun _ _ _ h => h, fun _ _ h _ => h⟩
theorem Step.trans {M M1 M2 : Mp} {H H1 H2 : Hp} (a : Step M H M1 H1) (b : Step M1 H1 M2 H2) : Step M H M2 H2 :=
 ⟨fun c o h1 h2 => b.keep c o (a.free c o h1 h2) (a.keep c o h1 h2), fun c o h1 h2 => b.free c o (a.free c o h1 h2) (a.keep c o h1 h2)⟩
section
variable {K : PySem.W.Frag} {M M' : Mp} {H H' : Hp}
theorem Ma {a : Addr} {u : HO} (st : Step M H M' H') (hm : M a = none) (h : Rd H a u) : M' a = none ∧ Rd H' a u := by
 rcases h with h | ⟨o, h⟩
 ·exact ⟨st.free _ _ hm h, .inl (st.keep _ _ hm h)⟩
 ·exact ⟨st.free _ _ hm h, .inr ⟨o, st.keep _ _ hm h⟩⟩
theorem TupAt.step {a : Addr} {xs : List V} (h : TupAt K M H a xs) (st : Step M H M' H') : TupAt K M' H' a xs := by
 rcases h with ⟨h1, h2⟩ | h
 ·exact .inl (Ma st h1 h2)
 ·exact .inr h
theorem LstAt.step {a : Addr} {xs : List V} (h : LstAt K M H a xs) (st : Step M H M' H') : LstAt K M' H' a xs := by
 rcases h with ⟨h1, h2⟩ | h
 ·exact .inl (Ma st h1 h2)
 ·exact .inr h
mutual
theorem Dt.step (st : Step M H M' H') : ∀ {v : V} {d : PyData}, Dt K M H v d → Dt K M' H' v d
 | _, _, .non => .non
 | _, _, .bl b => .bl b
 | _, _, .int i => .int i
 | _, _, .str x => .str x
 | _, _, .tup h1 h2 => .tup (h1.step st) (Dts.step st h2)
 | _, _, .lst h1 h2 => .lst (h1.step st) (Dts.step st h2)
 | _, _, .dK h0 h1 h2 => .dK (st.free _ _ h0 h1) (st.keep _ _ h0 h1) (Dts.step st h2)
 | _, _, .dT h0 h1 h2 => .dT (st.free _ _ h0 h1) (st.keep _ _ h0 h1) (Dts.step st h2)
 | _, _, .dX h0 h1 h2 h3 h4 h5 => .dX (st.free _ _ h0 h1) (st.keep _ _ h0 h1) h2 h3 (Dt.step st h4) (Dt.step st h5)
theorem Dts.step (st : Step M H M' H') : ∀ {vs : List V} {ds : List PyData}, Dts K M H vs ds → Dts K M' H' vs ds
 | _, _, .nil => .nil
 | _, _, .cons h1 h2 => .cons (Dt.step st h1) (Dts.step st h2)
end
theorem Dts.length : ∀ {vs : List V} {ds : List PyData}, Dts K M H vs ds → vs.length = ds.length
 | _, _, .nil => rfl
 | _, _, .cons _ h => by rw [List.length_cons, List.length_cons, Dts.length h]
theorem Dts.get : ∀ {vs : List V} {ds : List PyData} {i : Nat} {d : PyData}, Dts K M H vs ds → ds[i]? = some d → ∃ v, vs[i]? = some v ∧ Dt K M H v d
 | _, _, _, _, .nil, e => by simp at e
 | _, _, 0, _, .cons h _, e => by simp at e; subst e; exact ⟨_, rfl, h⟩
 | _, _, i + 1, d, .cons _ h, e => by
  obtain ⟨v, h1, h2⟩ := Dts.get (i := i) (d := d) h (by simpa using e)
  exact ⟨v, by simpa using h1, h2⟩
theorem Dts.N3 : ∀ {vs : List V} {ds : List PyData} {i : Nat} {v : V}, Dts K M H vs ds → vs[i]? = some v → ∃ d, ds[i]? = some d ∧ Dt K M H v d
 | _, _, _, _, .nil, e => by simp at e
 | _, _, 0, _, .cons h _, e => by simp at e; subst e; exact ⟨_, rfl, h⟩
 | _, _, i + 1, v, .cons _ h, e => by
  obtain ⟨d, h1, h2⟩ := Dts.N3 (i := i) (v := v) h (by simpa using e)
  exact ⟨d, by simpa using h1, h2⟩
theorem Dts.append : ∀ {vs ws : List V} {ds es : List PyData}, Dts K M H vs ds → Dts K M H ws es → Dts K M H (vs ++ ws) (ds ++ es)
 | _, _, _, _, .nil, h => h
 | _, _, _, _, .cons h1 h2, h => .cons h1 (Dts.append h2 h)
theorem Dts.take : ∀ {vs : List V} {ds : List PyData} (n : Nat), Dts K M H vs ds → Dts K M H (vs.take n) (ds.take n)
 | _, _, 0, _ => .nil
 | _, _, _ + 1, .nil => .nil
 | _, _, n + 1, .cons h1 h2 => .cons h1 (Dts.take n h2)
theorem Dts.drop : ∀ {vs : List V} {ds : List PyData} (n : Nat), Dts K M H vs ds → Dts K M H (vs.drop n) (ds.drop n)
 | _, _, 0, h => h
 | _, _, _ + 1, .nil => .nil
 | _, _, n + 1, .cons _ h2 => Dts.drop n h2
theorem Dts.set {v : V} {d : PyData} (h : Dt K M H v d) : ∀ {vs : List V} {ds : List PyData} (i : Nat), Dts K M H vs ds → Dts K M H (vs.set i v) (ds.set i d)
 | _, _, _, .nil => .nil
 | _, _, 0, .cons _ t => .cons h t
 | _, _, i + 1, .cons q t => .cons q (Dts.set h i t)
theorem Dts.ints : ∀ (ns : List Int), Dts K M H (ns.map V.int) (ns.map PyData.int)
 | [] => .nil
 | n :: ns => .cons (.int n) (Dts.ints ns)
theorem YW : ∀ {vs : List V} {ns : List Int}, Dts K M H vs (ns.map PyData.int) → vs = ns.map V.int
 | vs, [], h => by
  rw [List.map_nil] at h
  cases h
  rfl
 | vs, n :: ns, h => by
  rw [List.map_cons] at h
  cases h with
  | cons h1 h2 =>
   cases h1
   rw [YW h2, List.map_cons]
def OOk (K : PySem.W.Frag) (M : Mp) (H : Hp) (a : Addr) : OO → Prop
 | .lst ds => ∃ vs, H a = some (.lst vs) ∧ Dts K M H vs ds
 | .dct ks => ∃ kvs, H a = some (.dT kvs) ∧ kvs.map (·.1) = ks
 | .dtv ps => ∃ kvs, H a = some (.dT kvs) ∧ kvs.map (·.1) = ps.map (·.1) ∧ Dts K M H (kvs.map (·.2)) (ps.map (·.2))
 | .dkv ps => ∃ kvs, H a = some (.dK kvs) ∧ kvs.map (·.1) = ps.map (·.1) ∧ Dts K M H (kvs.map (·.2)) (ps.map (·.2))
 | .ext φ => H a = some (.ext φ)
theorem OOk.step {a : Addr} {o : OO} (h : OOk K M H a o) (st : Step M H M' H') (e : ∀ u, H a = some u → H' a = some u) : OOk K M' H' a o := by
 cases o with
 | lst ds => obtain ⟨vs, e1, e2⟩ := h; exact ⟨vs, e _ e1, e2.step st⟩
 | dct ks => obtain ⟨vs, e1, e2⟩ := h; exact ⟨vs, e _ e1, e2⟩
 | dtv ps => obtain ⟨vs, e1, e2, e3⟩ := h; exact ⟨vs, e _ e1, e2, e3.step st⟩
 | dkv ps => obtain ⟨vs, e1, e2, e3⟩ := h; exact ⟨vs, e _ e1, e2, e3.step st⟩
 | ext φ => exact e _ h
theorem OOk.some {a : Addr} {o : OO} (h : OOk K M H a o) : ∃ u, H a = some u := by
 cases o with
 | lst ds => obtain ⟨vs, e1, _⟩ := h; exact ⟨_, e1⟩
 | dct ks => obtain ⟨vs, e1, _⟩ := h; exact ⟨_, e1⟩
 | dtv ps => obtain ⟨vs, e1, _⟩ := h; exact ⟨_, e1⟩
 | dkv ps => obtain ⟨vs, e1, _⟩ := h; exact ⟨_, e1⟩
 | ext φ => exact ⟨_, h⟩
structure ZX (K : PySem.W.Frag) (M : Mp) (H : Hp) : Prop where
 ok : ∀ a o, M a = some o → OOk K M H a o
theorem ZX.ls (r : ZX K M H) (a : Addr) (ds : List PyData) (h : M a = some (.lst ds)) : ∃ vs, H a = some (.lst vs) ∧ Dts K M H vs ds := r.ok a _ h
theorem ZX.dc (r : ZX K M H) (a : Addr) (ks : List (List Key)) (h : M a = some (.dct ks)) : ∃ kvs, H a = some (.dT kvs) ∧ kvs.map (·.1) = ks := r.ok a _ h
theorem ZX.tracked (r : ZX K M H) {a : Addr} (h : H a = none) : M a = none := by
 cases q : M a with
 | none => rfl
 | some o =>
  obtain ⟨u, e⟩ := (r.ok a o q).some
  rw [h] at e
  cases e
theorem Step.new {p : Addr} {o : HO} (h : H p = none) : Step M H M (upd H p o) :=
 ⟨fun b u _ e => by rw [ZL (ZC e h)]; exact e, fun _ _ h _ => h⟩
theorem ZX.step_same (r : ZX K M H) (st : Step M H M H') (hk : ∀ a u, M a ≠ none → H a = some u → H' a = some u) : ZX K M H' :=
 ⟨fun a o e => (r.ok a o e).step st fun u hu => hk a u (by rw [e]; simp) hu⟩
theorem ZX.new (r : ZX K M H) {p : Addr} {o : HO} (h : H p = none) : ZX K M (upd H p o) :=
 r.step_same (Step.new h) fun a vs _ e => by rw [ZL (ZC e h)]; exact e
theorem Step.Xg {p : Addr} {o : HO} {q : OO} (h : H p = none) : Step M H (Z8 M p q) (upd H p o) :=
 ⟨fun b u _ e => by rw [ZL (ZC e h)]; exact e, fun b u hm e => by rw [Qy (ZC e h)]; exact hm⟩
theorem Step.De {p : Addr} {o : HO} {q q' : OO} (h : M p = some q) : Step M H (Z8 M p q') (upd H p o) := by
 have ne : ∀ b, M b = none → b ≠ p := fun b hb e => by rw [e, h] at hb; cases hb
 exact ⟨fun b u hb e => by rw [ZL (ne b hb)]; exact e, fun b u hb e => by rw [Qy (ne b hb)]; exact hb⟩
theorem ZX.ZaZ (r : ZX K M H) {p : Addr} {u : HO} {o : OO} (st : Step M H (Z8 M p o) (upd H p u)) (h : OOk K (Z8 M p o) (upd H p u) p o) : ZX K (Z8 M p o) (upd H p u) := by
 refine ⟨fun a q e => ?_⟩
 by_cases ha : a = p
 ·subst ha
  rw [ZU] at e
  cases e
  exact h
 ·rw [Qy ha] at e
  exact (r.ok a q e).step st fun v hv => by rw [ZL ha]; exact hv
theorem ZX.Xl (r : ZX K M H) {p : Addr} {vs : List V} {ds : List PyData} (st : Step M H (Z8 M p (.lst ds)) (upd H p (.lst vs))) (hv : Dts K M H vs ds) :
  ZX K (Z8 M p (.lst ds)) (upd H p (.lst vs)) := r.ZaZ st ⟨vs, JK, hv.step st⟩
theorem Step.frz {p : Addr} : Step M H (Ku M p) H :=
 ⟨fun _ _ _ h => h, fun b o hb _ => by unfold Ku; split <;> first | rfl | exact hb⟩
theorem ZX.frz (r : ZX K M H) {p : Addr} : ZX K (Ku M p) H := by
 refine ⟨fun a o e => ?_⟩
 have hne : a ≠ p := fun z => by rw [z, G5] at e; cases e
 rw [BU hne] at e
 exact (r.ok a o e).step Step.frz fun _ h => h
inductive DV where
 | dat (d : PyData)
 | own (a : Addr)
 | ty (n : String)
def Q2 (K : PySem.W.Frag) (M : Mp) (H : Hp) (v : V) : DV → Prop
 | .dat d => Dt K M H v d
 | .own a => v = .ref a
 | .ty n => v = .ty n
theorem Q2.step {v : V} {x : DV} (h : Q2 K M H v x) (st : Step M H M' H') : Q2 K M' H' v x := by
 cases x with
 | dat d => exact Dt.step st h
 | own a => exact h
 | ty n => exact h
abbrev YA (K : PySem.W.Frag) (M : Mp) (H : Hp) : List V → List DV → Prop := Paired (Q2 K M H)
theorem YA.step {vs : List V} {xs : List DV} (h : YA K M H vs xs) (st : Step M H M' H') : YA K M' H' vs xs := Paired.Zet h fun _ _ q => Q2.step q st
theorem YA.ZdA : ∀ {vs : List V} {ds : List PyData}, YA K M H vs (ds.map DV.dat) → Dts K M H vs ds
 | vs, [], h => by rw [List.map_nil] at h; cases h; exact .nil
 | vs, d :: ds, h => by
  rw [List.map_cons] at h
  cases h with
  | cons h1 h2 => exact .cons h1 (YA.ZdA h2)
def onV (o : Option (Option DV)) (P : DV → Prop) : Prop := match o with | some (some x) => P x | _ => False
theorem Zap {o : Option (Option DV)} {P : DV → Prop} (h : onV o P) : ∃ x, o = some (some x) ∧ P x := by
 unfold onV at h
 split at h
 ·exact ⟨_, rfl, h⟩
 ·exact h.elim
def onI (x : DV) (P : Int → Prop) : Prop := match x with | .dat (.int i) => P i | _ => False
theorem ZO {x : DV} {P : Int → Prop} (h : onI x P) : ∃ i, x = .dat (.int i) ∧ P i := by
 unfold onI at h
 split at h
 ·exact ⟨_, rfl, h⟩
 ·exact h.elim
def onB (x : DV) (P : Bool → Prop) : Prop := match x with | .dat (.bool i) => P i | _ => False
theorem Wi {x : DV} {P : Bool → Prop} (h : onB x P) : ∃ i, x = .dat (.bool i) ∧ P i := by
 unfold onB at h
 split at h
 ·exact ⟨_, rfl, h⟩
 ·exact h.elim
def onS (x : DV) (P : Str → Prop) : Prop := match x with | .dat (.str i) => P i | _ => False
theorem Zb2 {x : DV} {P : Str → Prop} (h : onS x P) : ∃ i, x = .dat (.str i) ∧ P i := by
 unfold onS at h
 split at h
 ·exact ⟨_, rfl, h⟩
 ·exact h.elim
def onT (x : DV) (P : List PyData → Prop) : Prop := match x with | .dat (.tuple i) => P i | _ => False
theorem YE {x : DV} {P : List PyData → Prop} (h : onT x P) : ∃ i, x = .dat (.tuple i) ∧ P i := by
 unfold onT at h
 split at h
 ·exact ⟨_, rfl, h⟩
 ·exact h.elim
def onL (x : DV) (P : List PyData → Prop) : Prop := match x with | .dat (.list i) => P i | _ => False
theorem K8 {x : DV} {P : List PyData → Prop} (h : onL x P) : ∃ i, x = .dat (.list i) ∧ P i := by
 unfold onL at h
 split at h
 ·exact ⟨_, rfl, h⟩
 ·exact h.elim
def onD (x : DV) (P : PyData → Prop) : Prop := match x with | .dat i => P i | _ => False
theorem QY {x : DV} {P : PyData → Prop} (h : onD x P) : ∃ i, x = .dat i ∧ P i := by
 unfold onD at h
 split at h
 ·exact ⟨_, rfl, h⟩
 ·exact h.elim
def onO (x : DV) (P : Addr → Prop) : Prop := match x with | .own i => P i | _ => False
theorem Jf {x : DV} {P : Addr → Prop} (h : onO x P) : ∃ i, x = .own i ∧ P i := by
 unfold onO at h
 split at h
 ·exact ⟨_, rfl, h⟩
 ·exact h.elim
def XE (o : Option OO) (P : List PyData → Prop) : Prop := match o with | some (.lst ds) => P ds | _ => False
theorem Vi {o : Option OO} {P : List PyData → Prop} (h : XE o P) : ∃ ds, o = some (.lst ds) ∧ P ds := by
 unfold XE at h
 split at h
 ·exact ⟨_, rfl, h⟩
 ·exact h.elim
def SD (o : Option OO) (P : List (List Key) → Prop) : Prop := match o with | some (.dct ks) => P ks | _ => False
def onQ (x : DV) (M : Mp) (P : List PyData → Prop) : Prop := match x with | .dat (.tuple ds) => P ds | .dat (.list ds) => P ds | .own l => XE (M l) P | _ => False
theorem Gb {x : DV} {M : Mp} {P : List PyData → Prop} (h : onQ x M P) : ∃ ds, (x = .dat (.tuple ds) ∨ x = .dat (.list ds) ∨ ∃ l, x = .own l ∧ M l = some (.lst ds)) ∧ P ds := by
 unfold onQ at h
 split at h
 ·exact ⟨_, .inl rfl, h⟩
 ·exact ⟨_, .inr (.inl rfl), h⟩
 ·replace h := Vi h
  obtain ⟨ds, e, h⟩ := h
  exact ⟨ds, .inr (.inr ⟨_, rfl, e⟩), h⟩
 ·exact h.elim
def onK (x : DV) (M : Mp) (P : List PyData → Prop) : Prop := match x with | .dat (.list ds) => P ds | .own l => XE (M l) P | _ => False
theorem Ks {x : DV} {M : Mp} {P : List PyData → Prop} (h : onK x M P) : ∃ ds, (x = .dat (.list ds) ∨ ∃ l, x = .own l ∧ M l = some (.lst ds)) ∧ P ds := by
 unfold onK at h
 split at h
 ·exact ⟨_, .inl rfl, h⟩
 ·replace h := Vi h
  obtain ⟨ds, e, h⟩ := h
  exact ⟨ds, .inr ⟨_, rfl, e⟩, h⟩
 ·exact h.elim
def on1 (xs : List DV) (P : DV → Prop) : Prop := match xs with | [x] => P x | _ => False
theorem Qn {xs : List DV} {P : DV → Prop} (h : on1 xs P) : ∃ x, xs = [x] ∧ P x := by
 unfold on1 at h
 split at h
 ·exact ⟨_, rfl, h⟩
 ·exact h.elim
def on2 (xs : List DV) (P : DV → DV → Prop) : Prop := match xs with | [x, y] => P x y | _ => False
theorem Zx {xs : List DV} {P : DV → DV → Prop} (h : on2 xs P) : ∃ x y, xs = [x, y] ∧ P x y := by
 unfold on2 at h
 split at h
 ·exact ⟨_, _, rfl, h⟩
 ·exact h.elim
def on3 (xs : List DV) (P : DV → DV → DV → Prop) : Prop := match xs with | [x, y, z] => P x y z | _ => False
theorem Z3 {xs : List DV} {P : DV → DV → DV → Prop} (h : on3 xs P) : ∃ x y z, xs = [x, y, z] ∧ P x y z := by
 unfold on3 at h
 split at h
 ·exact ⟨_, _, _, rfl, h⟩
 ·exact h.elim
def on4 (xs : List DV) (P : DV → DV → DV → DV → Prop) : Prop := match xs with | [x0, x1, x2, x3] => P x0 x1 x2 x3 | _ => False
theorem GV {xs : List DV} {P : DV → DV → DV → DV → Prop} (h : on4 xs P) : ∃ x0 x1 x2 x3, xs = [x0, x1, x2, x3] ∧ P x0 x1 x2 x3 := by
 unfold on4 at h
 split at h
 ·exact ⟨_, _, _, _, rfl, h⟩
 ·exact h.elim
def on5 (xs : List DV) (P : DV → DV → DV → DV → DV → Prop) : Prop := match xs with | [x0, x1, x2, x3, x4] => P x0 x1 x2 x3 x4 | _ => False
def on6 (xs : List DV) (P : DV → DV → DV → DV → DV → DV → Prop) : Prop := match xs with | [x0, x1, x2, x3, x4, x5] => P x0 x1 x2 x3 x4 x5 | _ => False
noncomputable def ON : List DV → Option (List PyData)
 | [] => some []
 | .dat d :: r => match ON r with | some ds => some (d :: ds) | none => none
 | _ :: _ => none
theorem C1 : ∀ {xs : List DV} {ds : List PyData}, ON xs = some ds → xs = ds.map DV.dat
 | [], _, h => by cases h; rfl
 | .dat d :: r, ds, h => by
  rw [ON] at h
  split at h
  ·rename_i es e
   cases h
   rw [List.map_cons, ← C1 e]
  ·cases h
 | .own _ :: _, _, h => by cases h
 | .ty _ :: _, _, h => by cases h
def KU (xs : List DV) (P : List PyData → Prop) : Prop := match Nat.ble xs.length 100 with
 | true => (match ON xs with | some ds => P ds | none => False)
 | false => False
theorem BN {xs : List DV} {P : List PyData → Prop} (h : KU xs P) : ∃ ds, xs = ds.map DV.dat ∧ ds.length ≤ 100 ∧ P ds := by
 unfold KU at h
 split at h
 ·rename_i e
  split at h
  ·rename_i ds e2
   have e3 := C1 e2
   refine ⟨ds, e3, ?_, h⟩
   have e4 := Nat.le_of_ble_eq_true e
   rwa [e3, List.length_map] at e4
  ·exact h.elim
 ·exact h.elim
abbrev DSt := List (Option DV)
structure Jn (K : PySem.W.Frag) (M : Mp) (H : Hp) (σ : L2.St) (Δ : DSt) : Prop where
 len : σ.length = Δ.length
 at' : ∀ (i : Nat) (x : DV), Δ[i]? = some (some x) → ∃ v, σ[i]? = some (some v) ∧ Q2 K M H v x
theorem Jn.step {σ : L2.St} {Δ : DSt} (h : Jn K M H σ Δ) (st : Step M H M' H') : Jn K M' H' σ Δ :=
 ⟨h.len, fun i x e => let ⟨v, e1, e2⟩ := h.at' i x e; ⟨v, e1, e2.step st⟩⟩
theorem Jn.set {σ : L2.St} {Δ : DSt} {i : Nat} {v : V} {x : DV} (h : Jn K M H σ Δ) (r : Q2 K M H v x) : Jn K M H (σ.set i (some v)) (Δ.set i (some x)) := by
 refine ⟨by rw [List.length_set, List.length_set, h.len], fun j y e => ?_⟩
 by_cases hj : i = j
 ·subst hj
  by_cases hl : i < Δ.length
  ·rw [List.getElem?_set_self hl] at e
   cases e
   exact ⟨v, List.getElem?_set_self (by rw [h.len]; exact hl), r⟩
  ·rw [List.getElem?_eq_none (by rw [List.length_set]; omega)] at e
   cases e
 ·rw [List.getElem?_set_ne hj] at e
  rw [List.getElem?_set_ne hj]
  exact h.at' j y e
noncomputable def Xk (N : List Str) (xs : List DV) : DSt := xs.map some ++ List.replicate (N.length - xs.length) none
theorem Paired.Zfu {α β : Type} {F : α → β → Prop} : ∀ {l : List α} {m : List β} {i : Nat} {b : β}, Paired F l m → m[i]? = some b → ∃ a, l[i]? = some a ∧ F a b
 | _, _, _, _, .nil, e => by simp at e
 | _, _, 0, _, .cons h _, e => by simp at e; subst e; exact ⟨_, rfl, h⟩
 | _, _, i + 1, b, .cons _ h, e => by
  obtain ⟨a, h1, h2⟩ := Paired.Zfu (i := i) (b := b) h (by simpa using e)
  exact ⟨a, by simpa using h1, h2⟩
theorem Jn.start {N : List Str} {vs : List V} {xs : List DV} (h : YA K M H vs xs) : Jn K M H (start N vs) (Xk N xs) := by
 have hl : vs.length = xs.length := Paired.length h
 refine ⟨by unfold L2.start Xk; simp [hl], fun i x e => ?_⟩
 unfold Xk at e
 unfold L2.start
 by_cases hi : i < xs.length
 ·rw [List.getElem?_append_left (by simpa using hi), List.getElem?_map] at e
  cases q : xs[i]? with
  | none => rw [q] at e; cases e
  | some y =>
   rw [q] at e
   cases e
   obtain ⟨v, h1, h2⟩ := Paired.Zfu h q
   exact ⟨v, by rw [List.getElem?_append_left (by simpa [hl] using hi), List.getElem?_map, h1]; rfl, h2⟩
 ·rw [List.getElem?_append_right (by simpa using hi), List.getElem?_replicate] at e
  split at e <;> cases e
end
abbrev DK := DV → Mp → Prop
abbrev DTE := DSt → Mp → DK → Prop
abbrev DTT := DSt → Mp → (Bool → Mp → Prop) → Prop
abbrev DTA := DSt → Mp → (List DV → Mp → Prop) → Prop
structure QD where
 nx : DSt → Mp → Prop
 rt : DK
 bk : DSt → Mp → Prop := fun _ _ => False
 ct : DSt → Mp → Prop := fun _ _ => False
abbrev DTS := QD → DSt → Mp → Prop
def Rch (K : PySem.W.Frag) (M : Mp) (H : Hp) (Φ : DK) (Q : VK) : Prop := ∀ v H' x M', ZX K M' H' → Step M H M' H' → Q2 K M' H' v x → Φ x M' → Q v H'
theorem Rch.step {K : PySem.W.Frag} {M M' : Mp} {H H' : Hp} {Φ : DK} {Q : VK} (h : Rch K M H Φ Q) (st : Step M H M' H') : Rch K M' H' Φ Q := fun v H2 x M2 r s2 q f => h v H2 x M2 r (st.trans s2) q f
theorem Rch.dat {K : PySem.W.Frag} {M M' : Mp} {H H' : Hp} {Φ : DK} {Q : VK} {v : V} {d : PyData} (h : Rch K M H Φ Q) (r : ZX K M' H') (st : Step M H M' H') (hd : Dt K M' H' v d) (f : Φ (.dat d) M') : Q v H' := h v H' (.dat d) M' r st hd f
def DE (X : Cx) (e : Expr) (τ : DTE) : Prop := ∃ t, PE X e t ∧ ∀ σ H Δ M Φ Q, ZX X.K M H → Jn X.K M H σ Δ → τ Δ M Φ → Rch X.K M H Φ Q → t σ H Q
def DT (X : Cx) (e : Expr) (τ : DTT) : Prop := ∃ t, PT X e t ∧ ∀ σ H Δ M Φ (Q : Bool → Hp → Prop), ZX X.K M H → Jn X.K M H σ Δ → τ Δ M Φ →
 (∀ b H' M', ZX X.K M' H' → Step M H M' H' → Φ b M' → Q b H') → t σ H Q
def DW (X : Cx) (e : Expr) (τ : DTT) : Prop := ∃ t, PW X e t ∧ ∀ σ H Δ M Φ (Q : Bool → Hp → Prop), ZX X.K M H → Jn X.K M H σ Δ → τ Δ M Φ →
 (∀ b H' M', ZX X.K M' H' → Step M H M' H' → Φ b M' → Q b H') → t σ H Q
def DA (X : Cx) (es : List Expr) (τ : DTA) : Prop := ∃ t, PA X es t ∧ ∀ σ H Δ M Φ (Q : List V → Hp → Prop), ZX X.K M H → Jn X.K M H σ Δ → τ Δ M Φ →
 (∀ vs H' xs M', ZX X.K M' H' → Step M H M' H' → YA X.K M' H' vs xs → Φ xs M' → Q vs H') → t σ H Q
structure X9 (K : PySem.W.Frag) (M : Mp) (H : Hp) (D : QD) (E : Ends) : Prop where
 nx : ∀ σ' H' Δ' M', ZX K M' H' → Step M H M' H' → Jn K M' H' σ' Δ' → D.nx Δ' M' → E.nx σ' H'
 rt : Rch K M H D.rt E.rt
 bk : ∀ σ' H' Δ' M', ZX K M' H' → Step M H M' H' → Jn K M' H' σ' Δ' → D.bk Δ' M' → E.bk σ' H'
 ct : ∀ σ' H' Δ' M', ZX K M' H' → Step M H M' H' → Jn K M' H' σ' Δ' → D.ct Δ' M' → E.ct σ' H'
theorem X9.step {K : PySem.W.Frag} {M M' : Mp} {H H' : Hp} {D : QD} {E : Ends} (h : X9 K M H D E) (st : Step M H M' H') : X9 K M' H' D E :=
 ⟨fun a b c d r s => h.nx a b c d r (st.trans s), h.rt.step st, fun a b c d r s => h.bk a b c d r (st.trans s), fun a b c d r s => h.ct a b c d r (st.trans s)⟩
def DS (X : Cx) (st : Stmt) (τ : DTS) : Prop := ∃ t, PS X st t ∧ ∀ σ H Δ M D E, ZX X.K M H → Jn X.K M H σ Δ → τ D Δ M → X9 X.K M H D E → t E σ H
def DSs (X : Cx) (st : List Stmt) (τ : DTS) : Prop := ∃ t, PSs X st t ∧ ∀ σ H Δ M D E, ZX X.K M H → Jn X.K M H σ Δ → τ D Δ M → X9 X.K M H D E → t E σ H
section
variable {X : Cx} {a b c : Expr} {ta tb tc : DTE} {pos : Pos}
def Zfc (i : Nat) : DTE := fun Δ M Φ => onV Δ[i]? fun x => Φ x M
def dC (d : PyData) : DTE := fun _ M Φ => Φ (.dat d) M
theorem Zb (i : Nat) {x : Str} {pos : Pos} (hN : autoParam (X.N[i]? = some x) zz3._auto_1) (hv : autoParam (Vis X.env.scope x) zz5._auto_1) (hd : autoParam ((x == ("__debug__" : Str)) = false) zz1._auto_1)
  (hcd : autoParam ((x == ("__classdict__" : Str)) = false) zz1._auto_1) : DE X (.Name x pos) (Zfc i) := by
 refine ⟨_, ZcK hN hv hd hcd, fun σ H Δ M Φ Q r e h k => ?_⟩
 replace h := Zap h
 obtain ⟨x, e1, h⟩ := h
 obtain ⟨v, e2, q⟩ := e.at' i x e1
 exact ⟨v, e2, k v H x M r Step.refl q h⟩
theorem XM {e : Expr} {v : V} {d : PyData} (h : PE X e (tC v)) (q : ∀ M H, Dt X.K M H v d) : DE X e (dC d) :=
 ⟨_, h, fun _ H _ M _ _ r _ h k => k v H (.dat d) M r Step.refl (q M H) h⟩
theorem Zc {i j pos} : DE X (.Constant (.int i) j pos) (dC (.int i)) := XM ZcA fun _ _ => .int i
theorem JD {b j pos} : DE X (.Constant (.bool b) j pos) (dC (.bool b)) := XM ZdL fun _ _ => .bl b
theorem Gx {j pos} : DE X (.Constant .none j pos) (dC .none) := XM ZbY fun _ _ => .non
theorem QM {x j pos} : DE X (.Constant (.str x) j pos) (dC (.str x)) := XM ZbX fun _ _ => .str x
def dTy (n : String) : DTE := fun _ M Φ => Φ (.ty n) M
theorem Eh {x : Str} {n : String} {pos : Pos} (hg : Gl X x) (hm : X.mg x = none) (hv : bootBuiltins x = some (.type n)) (hn : autoParam (x ≠ "__name__") zz1._auto_1) (hdb : autoParam ((x == ("__debug__" : Str)) = false) zz1._auto_1) : DE X (.Name x pos) (dTy n) :=
 ⟨_, Se (v := .ty n) hg hm hv rfl hn hdb, fun _ H _ M _ _ r _ h k => k (.ty n) H (.ty n) M r Step.refl rfl h⟩
end
end DL
namespace DL
open PySem PySem.Spec PyProof.Rows L2
section
variable {K : PySem.W.Frag} {M M' : Mp} {H H' : Hp} {v : V}
theorem Q2.bool {b : Bool} (h : Q2 K M H v (.dat (.bool b))) : v = .bl b := by cases (show Dt K M H v (.bool b) from h); rfl
theorem Q2.int {i : Int} (h : Q2 K M H v (.dat (.int i))) : v = .int i := by cases (show Dt K M H v (.int i) from h); rfl
theorem Q2.str {x : Str} (h : Q2 K M H v (.dat (.str x))) : v = .str x := by cases (show Dt K M H v (.str x) from h); rfl
theorem Q2.tup {ds : List PyData} (h : Q2 K M H v (.dat (.tuple ds))) : ∃ a xs, v = .ref a ∧ TupAt K M H a xs ∧ Dts K M H xs ds := by
 cases (show Dt K M H v (.tuple ds) from h) with
 | tup h1 h2 => exact ⟨_, _, rfl, h1, h2⟩
theorem Q2.lst {ds : List PyData} (h : Q2 K M H v (.dat (.list ds))) : ∃ a xs, v = .ref a ∧ LstAt K M H a xs ∧ Dts K M H xs ds := by
 cases (show Dt K M H v (.list ds) from h) with
 | lst h1 h2 => exact ⟨_, _, rfl, h1, h2⟩
theorem Dt.XQ {p : Addr} {xs : List V} {ds : List PyData} (r : ZX K M H) (hp : H p = none) (h : Dts K M H xs ds) : Dt K M (upd H p (.tup xs)) (.ref p) (.tuple ds) :=
 .tup (.inl ⟨r.tracked hp, .inl JK⟩) (h.step (Step.new hp))
theorem Dt.Vr {p : Addr} {xs : List V} {ds : List PyData} (r : ZX K M H) (hp : H p = none) (h : Dts K M H xs ds) : Dt K M (upd H p (.lst xs)) (.ref p) (.list ds) :=
 .lst (.inl ⟨r.tracked hp, .inl JK⟩) (h.step (Step.new hp))
end
def Snd (K : PySem.W.Frag) (t : TE) (τ : DTE) : Prop := ∀ σ H Δ M Φ Q, ZX K M H → Jn K M H σ Δ → τ Δ M Φ → Rch K M H Φ Q → t σ H Q
theorem Snd.bin {K : PySem.W.Frag} {ta tb : TE} {τa τb : DTE} (qa : Snd K ta τa) (qb : Snd K tb τb) {M : Mp} {H : Hp} {σ : L2.St} {Δ : DSt} {S : DV → DV → Mp → Prop} {R : V → V → Hp → Prop} (r : ZX K M H) (e : Jn K M H σ Δ)
  (h : τa Δ M fun x M1 => τb Δ M1 fun y M2 => S x y M2)
  (k : ∀ v u H2 x y M2, ZX K M2 H2 → Step M H M2 H2 → Q2 K M2 H2 v x → Q2 K M2 H2 u y → S x y M2 → R v u H2) : ta σ H fun v H1 => tb σ H1 fun u H2 => R v u H2 :=
 qa σ H Δ M _ _ r e h fun v H1 x M1 r1 st rv hx => qb σ H1 Δ M1 _ _ r1 (e.step st) hx fun u H2 y M2 r2 st2 ru hy => k v u H2 x y M2 r2 (st.trans st2) (rv.step st2) ru hy
abbrev D2 := DV → DV → Mp → DK → Prop
def OpD (X : Cx) (f : Value → Value → Sem Value) (δ : D2) : Prop := ∃ r : R2, OpR X f r ∧ ∀ v u H x y M Φ Q, ZX X.K M H → Q2 X.K M H v x → Q2 X.K M H u y → δ x y M Φ → Rch X.K M H Φ Q → r v u H Q
def dOp (δ : D2) (ta tb : DTE) : DTE := fun Δ M Φ => ta Δ M fun x M1 => tb Δ M1 fun y M2 => δ x y M2 Φ
section
variable {X : Cx} {a b c : Expr} {ta tb tc : DTE} {pos : Pos} {op op' : CmpOp} {δ δ' : D2}
theorem Snd.opn {ta' tb' : TE} {r : R2} (ha : Snd X.K ta' ta) (hb : Snd X.K tb' tb) (q : ∀ v u H x y M Φ Q, ZX X.K M H → Q2 X.K M H v x → Q2 X.K M H u y → δ x y M Φ → Rch X.K M H Φ Q → r v u H Q) : Snd X.K (tOp r ta' tb') (dOp δ ta tb) :=
 fun _ _ _ _ _ _ dr e h k => Snd.bin ha hb dr e h fun v u H2 x y M2 r2 st rv ru hs => q v u H2 x y M2 _ _ r2 rv ru hs (k.step st)
theorem Zs {bop : Operator} (ho : OpD X (binaryOp bop) δ) (ha : DE X a ta) (hb : DE X b tb) : DE X (.BinOp a bop b pos) (dOp δ ta tb) := by
 obtain ⟨ta', pa, qa⟩ := ha
 obtain ⟨tb', pb, qb⟩ := hb
 obtain ⟨r, hr, q⟩ := ho
 exact ⟨_, ZeL hr pa pb, Snd.opn qa qb q⟩
theorem U5 (ho : OpD X (compareOp op) δ) (ha : DE X a ta) (hb : DE X b tb) (hm : autoParam (behindInMarks op b = false) zz6._auto_1) : DE X (.Compare a [op] [b] pos) (dOp δ ta tb) := by
 obtain ⟨ta', pa, qa⟩ := ha
 obtain ⟨tb', pb, qb⟩ := hb
 obtain ⟨r, hr, q⟩ := ho
 exact ⟨_, S6 hr pa pb hm, Snd.opn qa qb q⟩
def dB (t : DTE) : DTT := fun Δ M Φ => t Δ M fun x M1 => onB x fun c => Φ c M1
theorem Snd.test {t : TE} {τ : DTE} (h : Snd X.K t τ) {σ : L2.St} {H : Hp} {Δ : DSt} {M : Mp} {Φ : Bool → Mp → Prop} {Q : Bool → Hp → Prop} (r : ZX X.K M H) (e : Jn X.K M H σ Δ) (hw : dB τ Δ M Φ)
  (k : ∀ b H' M', ZX X.K M' H' → Step M H M' H' → Φ b M' → Q b H') : t σ H fun x H1 => ∃ c, x = .bl c ∧ Q c H1 := by
 refine h σ H Δ M _ _ r e hw fun v H1 x M1 r1 st rv hx => ?_
 replace hx := Wi hx
 obtain ⟨c, rfl, hx⟩ := hx
 exact ⟨c, rv.bool, k c H1 M1 r1 st hx⟩
theorem Zz (ho : OpD X (compareOp op) δ) (ha : DE X a ta) (hb : DE X b tb) (hm : autoParam (behindInMarks op b = false) zz6._auto_1) : DT X (.Compare a [op] [b] pos) (dB (dOp δ ta tb)) := by
 obtain ⟨ta', pa, qa⟩ := ha
 obtain ⟨tb', pb, qb⟩ := hb
 obtain ⟨r, hr, q⟩ := ho
 exact ⟨_, Sg hr pa pb hm, fun _ _ _ _ _ _ dr e h k => Snd.test (Snd.opn qa qb q) dr e h k⟩
theorem Jc {e : Expr} {τ : DTE} (h : DE X e τ) (he : autoParam (∀ whole, isTrue e X.env whole = (do let v ← whole; standAt e.pos; holding [v] (truthy v))) zz2._auto_1) : DT X e (dB τ) := by
 obtain ⟨t, p, q⟩ := h
 exact ⟨_, ZaO p he, fun _ _ _ _ _ _ dr e h k => Snd.test q dr e h k⟩
def C7 (δ δ' : D2) (ta tb tc : DTE) : DTE := fun Δ M Φ => ta Δ M fun x M1 => tb Δ M1 fun y M2 => δ x y M2 fun z M3 => onB z fun k => (if k = true then tc Δ M3 fun w' M4 => δ' y w' M4 Φ else Φ (.dat (.bool false)) M3)
theorem Snd.chain {ta' tb' tc' : TE} {r r' : R2} (ha : Snd X.K ta' ta) (hb : Snd X.K tb' tb) (hc : Snd X.K tc' tc) (q : ∀ v u H x y M Φ Q, ZX X.K M H → Q2 X.K M H v x → Q2 X.K M H u y → δ x y M Φ → Rch X.K M H Φ Q → r v u H Q)
  (q' : ∀ v u H x y M Φ Q, ZX X.K M H → Q2 X.K M H v x → Q2 X.K M H u y → δ' x y M Φ → Rch X.K M H Φ Q → r' v u H Q) : Snd X.K (Fm r r' ta' tb' tc') (C7 δ δ' ta tb tc) := by
 intro σ H Δ M Φ Q dr e h k
 refine Snd.bin ha hb dr e h fun v u H2 x y M2 r2 st rv ru hs => ?_
 refine q v u H2 x y M2 _ _ r2 rv ru hs fun z H3 zd M3 r3 st3 rz hz => ?_
 replace hz := Wi hz
 obtain ⟨kb, rfl, hz⟩ := hz
 refine ⟨kb, rz.bool, ?_⟩
 cases kb with
 | true =>
  have hz' : tc Δ M3 fun w' M4 => δ' y w' M4 Φ := by simpa using hz
  rw [if_pos rfl]
  refine hc σ H3 Δ M3 _ _ r3 (e.step (st.trans st3)) hz' fun w' H4 wd M4 r4 st4 rw4 hw4 => ?_
  exact q' u w' H4 y wd M4 _ _ r4 (ru.step (st3.trans st4)) rw4 hw4 (k.step (st.trans (st3.trans st4)))
 | false =>
  have hz' : Φ (.dat (.bool false)) M3 := by simpa using hz
  rw [if_neg Bool.false_ne_true]
  exact k.dat r3 (st.trans st3) (Dt.bl false) hz'
theorem W6 (ho : OpD X (compareOp op) δ) (ho' : OpD X (compareOp op') δ') (ha : DE X a ta) (hb : DE X b tb) (hc : DE X c tc) (hm : autoParam (lastMarks [op, op'] [b, c] = false) zz4._auto_1) :
  DE X (.Compare a [op, op'] [b, c] pos) (C7 δ δ' ta tb tc) := by
 obtain ⟨ta', pa, qa⟩ := ha
 obtain ⟨tb', pb, qb⟩ := hb
 obtain ⟨tc', pc, qc⟩ := hc
 obtain ⟨r, hr, q⟩ := ho
 obtain ⟨r', hr', q'⟩ := ho'
 exact ⟨_, Om hr hr' pa pb pc hm, Snd.chain qa qb qc q q'⟩
theorem WC (ho : OpD X (compareOp op) δ) (ho' : OpD X (compareOp op') δ') (ha : DE X a ta) (hb : DE X b tb) (hc : DE X c tc) (hm : autoParam (lastMarks [op, op'] [b, c] = false) zz4._auto_1) :
  DT X (.Compare a [op, op'] [b, c] pos) (dB (C7 δ δ' ta tb tc)) := by
 obtain ⟨ta', pa, qa⟩ := ha
 obtain ⟨tb', pb, qb⟩ := hb
 obtain ⟨tc', pc, qc⟩ := hc
 obtain ⟨r, hr, q⟩ := ho
 obtain ⟨r', hr', q'⟩ := ho'
 exact ⟨_, OL hr hr' pa pb pc hm, fun _ _ _ _ _ _ dr e h k => Snd.test (Snd.chain qa qb qc q q') dr e h k⟩
variable {tA tB' : DTT} {rest : List Expr}
def ZeX (t u : DTT) : DTT := fun Δ M Φ => t Δ M fun c M1 => if c = true then u Δ M1 Φ else Φ false M1
def dOr (t u : DTT) : DTT := fun Δ M Φ => t Δ M fun c M1 => if c = true then Φ true M1 else u Δ M1 Φ
def ZfE (t : DTT) : DTT := fun Δ M Φ => t Δ M fun c M1 => Φ (!c) M1
theorem DW.dt {e : Expr} {τ : DTT} (h : DW X e τ) : DT X e τ := by
 obtain ⟨t, p, q⟩ := h
 exact ⟨t, p.pt, q⟩
theorem Y5 (ha : DT X a tA) : DW X (.BoolOp .And [a] pos) tA := by
 obtain ⟨t, p, q⟩ := ha
 exact ⟨t, RK p, q⟩
theorem YK (ha : DT X a tA) : DW X (.BoolOp .Or [a] pos) tA := by
 obtain ⟨t, p, q⟩ := ha
 exact ⟨t, Zb1 p, q⟩
theorem Xp (ha : DT X a tA) (hb : DW X (.BoolOp .And (b :: rest) pos) tB') : DW X (.BoolOp .And (a :: b :: rest) pos) (ZeX tA tB') := by
 obtain ⟨t, p, q⟩ := ha
 obtain ⟨u, p2, q2⟩ := hb
 refine ⟨_, ZaD p p2, fun σ H Δ M Φ Q r e h k => ?_⟩
 refine q σ H Δ M _ _ r e h fun c H1 M1 r1 st hc => ?_
 cases c with
 | true => rw [if_pos rfl]; exact q2 σ H1 Δ M1 Φ Q r1 (e.step st) (by simpa using hc) fun b H2 M2 r2 st2 hb => k b H2 M2 r2 (st.trans st2) hb
 | false => rw [if_neg Bool.false_ne_true]; exact k false H1 M1 r1 st (by simpa using hc)
theorem Xa (ha : DT X a tA) (hb : DW X (.BoolOp .Or (b :: rest) pos) tB') : DW X (.BoolOp .Or (a :: b :: rest) pos) (dOr tA tB') := by
 obtain ⟨t, p, q⟩ := ha
 obtain ⟨u, p2, q2⟩ := hb
 refine ⟨_, Zd8 p p2, fun σ H Δ M Φ Q r e h k => ?_⟩
 refine q σ H Δ M _ _ r e h fun c H1 M1 r1 st hc => ?_
 cases c with
 | false => rw [if_neg Bool.false_ne_true]; exact q2 σ H1 Δ M1 Φ Q r1 (e.step st) (by simpa using hc) fun b H2 M2 r2 st2 hb => k b H2 M2 r2 (st.trans st2) hb
 | true => rw [if_pos rfl]; exact k true H1 M1 r1 st (by simpa using hc)
theorem Vj (ha : DT X a tA) : DT X (.UnaryOp .Not a pos) (ZfE tA) := by
 obtain ⟨t, p, q⟩ := ha
 exact ⟨_, Zb4 p, fun σ H Δ M Φ Q r e h k => q σ H Δ M _ _ r e h fun c H1 M1 r1 st hc => k _ H1 M1 r1 st hc⟩
def Za1 (ta tb : DTE) : DTE := fun Δ M Φ => ta Δ M fun x M1 => onB x fun c => if c = true then tb Δ M1 Φ else Φ (.dat (.bool false)) M1
def Zgj (ta tb : DTE) : DTE := fun Δ M Φ => ta Δ M fun x M1 => onB x fun c => if c = true then Φ (.dat (.bool true)) M1 else tb Δ M1 Φ
def Zcl (ta : DTE) : DTE := fun Δ M Φ => ta Δ M fun x M1 => onB x fun c => Φ (.dat (.bool (!c))) M1
theorem YM {bop} (h : DE X a ta) : DE X (.BoolOp bop [a] pos) ta := by
 obtain ⟨t, p, q⟩ := h
 exact ⟨t, Zc0 p, q⟩
theorem VI (ha : DE X a ta) (hb : DE X (.BoolOp .And (b :: rest) pos) tb) : DE X (.BoolOp .And (a :: b :: rest) pos) (Za1 ta tb) := by
 obtain ⟨t, p, q⟩ := ha
 obtain ⟨u, p2, q2⟩ := hb
 refine ⟨_, ZbZ p p2, fun σ H Δ M Φ Q r e h k => ?_⟩
 refine q σ H Δ M _ _ r e h fun v H1 x M1 r1 st rv hx => ?_
 replace hx := Wi hx
 obtain ⟨c, rfl, hx⟩ := hx
 refine ⟨c, rv.bool, ?_⟩
 cases c with
 | true => rw [if_pos rfl]; exact q2 σ H1 Δ M1 Φ Q r1 (e.step st) (by simpa using hx) (k.step st)
 | false => rw [if_neg Bool.false_ne_true]; exact k.dat r1 st (Dt.bl false) (by simpa using hx)
theorem Pm (ha : DE X a ta) : DE X (.UnaryOp .Not a pos) (Zcl ta) := by
 obtain ⟨t, p, q⟩ := ha
 refine ⟨_, Zal p, fun σ H Δ M Φ Q r e h k => ?_⟩
 refine q σ H Δ M _ _ r e h fun v H1 x M1 r1 st rv hx => ?_
 replace hx := Wi hx
 obtain ⟨c, rfl, hx⟩ := hx
 exact ⟨c, rv.bool, k.dat r1 st (Dt.bl (!c)) hx⟩
def dIf (t : DTT) (ta tb : DTE) : DTE := fun Δ M Φ => t Δ M fun c M1 => if c = true then ta Δ M1 Φ else tb Δ M1 Φ
theorem HS (hc : DT X c tA) (ha : DE X a ta) (hb : DE X b tb) : DE X (.IfExp c a b pos) (dIf tA ta tb) := by
 obtain ⟨t, p, q⟩ := hc
 obtain ⟨u, p2, q2⟩ := ha
 obtain ⟨w, p3, q3⟩ := hb
 refine ⟨_, OV p p2 p3, fun σ H Δ M Φ Q r e h k => ?_⟩
 refine q σ H Δ M _ _ r e h fun c H1 M1 r1 st hc => ?_
 cases c with
 | true => rw [if_pos rfl]; exact q2 σ H1 Δ M1 Φ Q r1 (e.step st) (by simpa using hc) (k.step st)
 | false => rw [if_neg Bool.false_ne_true]; exact q3 σ H1 Δ M1 Φ Q r1 (e.step st) (by simpa using hc) (k.step st)
def Ze4 (g : Int → Int) (ta : DTE) : DTE := fun Δ M Φ => ta Δ M fun x M1 => onI x fun i => Φ (.dat (.int (g i))) M1
theorem CN (ha : DE X a ta) : DE X (.UnaryOp .USub a pos) (Ze4 (fun i => -i) ta) := by
 obtain ⟨t, p, q⟩ := ha
 refine ⟨_, Zek Za2 p, fun σ H Δ M Φ Q r e h k => ?_⟩
 refine q σ H Δ M _ _ r e h fun v H1 x M1 r1 st rv hx => ?_
 replace hx := ZO hx
 obtain ⟨i, rfl, hx⟩ := hx
 exact ⟨i, rv.int, k.dat r1 st (Dt.int (-i)) hx⟩
def δI (C : Int → Int → Prop) (g : Int → Int → PyData) : D2 := fun x y M Φ => onI x fun i => onI y fun j => C i j ∧ Φ (.dat (g i j)) M
def δI0 (g : Int → Int → PyData) : D2 := fun x y M Φ => onI x fun i => onI y fun j => Φ (.dat (g i j)) M
theorem ZcR {f : Value → Value → Sem Value} {C : Int → Int → Prop} {g : Int → Int → Int} (h : OpR X f (rI C fun i j => .int (g i j))) : OpD X f (δI C fun i j => .int (g i j)) :=
 ⟨_, h, fun v u H x y M Φ Q r rv ru h k => by
  replace h := ZO h
  obtain ⟨i, e1, h⟩ := h
  replace h := ZO h
  obtain ⟨j, e2, hc, q⟩ := h
  subst e1 e2
  exact ⟨i, j, rv.int, ru.int, hc, k.dat r Step.refl (Dt.int _) q⟩⟩
theorem Zbn {f : Value → Value → Sem Value} {g : Int → Int → Int} (h : OpR X f (rI0 fun i j => .int (g i j))) : OpD X f (δI0 fun i j => .int (g i j)) :=
 ⟨_, h, fun v u H x y M Φ Q r rv ru h k => by
  replace h := ZO h
  obtain ⟨i, e1, h⟩ := h
  replace h := ZO h
  obtain ⟨j, e2, q⟩ := h
  subst e1 e2
  exact ⟨i, j, rv.int, ru.int, k.dat r Step.refl (Dt.int _) q⟩⟩
theorem Nq {f : Value → Value → Sem Value} {g : Int → Int → Bool} (h : OpR X f (rI0 fun i j => .bl (g i j))) : OpD X f (δI0 fun i j => .bool (g i j)) :=
 ⟨_, h, fun v u H x y M Φ Q r rv ru h k => by
  replace h := ZO h
  obtain ⟨i, e1, h⟩ := h
  replace h := ZO h
  obtain ⟨j, e2, q⟩ := h
  subst e1 e2
  exact ⟨i, j, rv.int, ru.int, k.dat r Step.refl (Dt.bl _) q⟩⟩
theorem ZE : OpD X (binaryOp .Add) (δI0 fun i j => .int (i + j)) := Zbn ZbI
theorem Qa : OpD X (binaryOp .Sub) (δI0 fun i j => .int (i - j)) := Zbn Zcx
theorem Vm : OpD X (binaryOp .Mult) (δI T5 fun i j => .int (i * j)) := ZcR Zau
theorem HF : OpD X (binaryOp .FloorDiv) (δI Zd7 fun i j => .int (i / j)) := ZcR T4
theorem Yr : OpD X (binaryOp .Mod) (δI (fun _ j => 0 < j) fun i j => .int (i % j)) := ZcR ZcB
theorem Ww : OpD X (binaryOp .Pow) (δI Zax fun i j => .int (i ^ j.toNat)) := ZcR ZcQ
theorem Xy : OpD X (compareOp .Lt) (δI0 fun i j => .bool (decide (i < j))) := Nq Zex
theorem Xt : OpD X (compareOp .LtE) (δI0 fun i j => .bool (decide (i ≤ j))) := Nq ZdZ
theorem WI : OpD X (compareOp .Gt) (δI0 fun i j => .bool (decide (j < i))) := Nq ZdI
theorem Zcr : OpD X (compareOp .GtE) (δI0 fun i j => .bool (decide (j ≤ i))) := Nq Zer
def δB (g : Bool → Bool → Bool) : D2 := fun x y M Φ => onB x fun c => onB y fun d => Φ (.dat (.bool (g c d))) M
theorem Lj : OpD X (compareOp .IsNot) (δB fun c d => c != d) :=
 ⟨fun x y H Q => ∃ c d, x = .bl c ∧ y = .bl d ∧ Q (.bl (c != d)) H, fun pins s σ H x y v u Q I rx ry ⟨c, d, e1, e2, q⟩ => by
  subst e1 e2
  cases rx
  cases ry
  exact isnot_bool ⟨.bl _, H, I, rfl, q⟩, fun v u H x y M Φ Q r rv ru h k => by
  replace h := Wi h
  obtain ⟨c, e1, h⟩ := h
  replace h := Wi h
  obtain ⟨d, e2, q⟩ := h
  subst e1 e2
  exact ⟨c, d, rv.bool, ru.bool, k.dat r Step.refl (Dt.bl _) q⟩⟩
def Zcu : D2 := fun x y M Φ => onT x fun ds => onT y fun es => ds ≠ [] ∧ ds.length + es.length ≤ sizeLine ∧ Φ (.dat (.tuple (ds ++ es))) M
theorem Dg : OpR X (binaryOp .Add) (fun x y H Q => ∃ l b xs zs, x = .ref l ∧ y = .ref b ∧ SqL X.K H l xs ∧ SqL X.K H b zs ∧ xs.length + zs.length ≤ sizeLine ∧ ∀ p, H p = none → Q (.ref p) (upd H p (.lst (xs ++ zs)))) := by
 intro pins s σ H x y v u Q I rx ry h
 obtain ⟨l, b, xs, zs, rfl, rfl, hl, hb, hz, q⟩ := h
 cases rx
 cases ry
 obtain ⟨its, r1, p1, _⟩ := I.list hl
 obtain ⟨its2, r2, p2, _⟩ := I.list hb
 obtain ⟨⟨cls, dd, data, sl⟩, ho, hc, n, hd⟩ := p1.isList
 obtain ⟨⟨cls2, dd2, data2, sl2⟩, ho2, hc2, n2, hd2⟩ := p2.isList
 simp only at hc hd hc2 hd2
 subst hc hd hc2 hd2
 have e : its.toArray ++ its2.toArray = (its ++ its2).toArray := by simp
 have hsz : its.toArray.size + its2.toArray.size ≤ sizeLine := by rw [List.size_toArray, List.size_toArray, ← r1.length, ← r2.length]; exact hz
 refine concat_meets ⟨_, ho, rfl⟩ ⟨_, ho2, rfl⟩ noFill_list_add seq_list_add PySem.F.slot_list_add PySem.F.entry_list_add (PySem.F.args_list_add_2 _ _) (list_addW l b its.toArray its2.toArray n n2 dd dd2 sl sl2 hsz) ⟨ho, ho2, ?_⟩
 rw [e]
 exact ⟨.ref _, _, I.Zf0 (t' := s.toks) (r1.append r2) (by rw [List.length_append]; exact hz), rfl, q _ I.fresh⟩
def Zat : D2 := fun x y M Φ => onL x fun ds => onL y fun es => ds.length + es.length ≤ sizeLine ∧ Φ (.dat (.list (ds ++ es))) M
def Te : D2 := fun x y M Φ => onL x fun ds => onL y fun es => ds.length + es.length ≤ sizeLine ∧ ∀ p, M p = none → Φ (.own p) (Z8 M p (.lst (ds ++ es)))
end
def Ze0 : DTA := fun _ M Φ => Φ [] M
def Zbk (ta : DTE) (tr : DTA) : DTA := fun Δ M Φ => ta Δ M fun x M1 => tr Δ M1 fun xs M2 => Φ (x :: xs) M2
section
variable {X : Cx} {e : Expr} {es : List Expr} {te : DTE} {t : DTA} {pos : Pos}
theorem Zd : DA X [] Ze0 := ⟨_, Ct, fun _ H _ M _ _ r _ h k => k [] H [] M r Step.refl .nil h⟩
theorem Za (ha : DE X e te) (hr : DA X es t) (hs : autoParam (starEach (e :: es) X.env = (false, eval e X.env) :: starEach es X.env) zz3._auto_1) : DA X (e :: es) (Zbk te t) := by
 obtain ⟨u, p, q⟩ := ha
 obtain ⟨w, p2, q2⟩ := hr
 refine ⟨_, UI p p2 hs, fun σ H Δ M Φ Q r e h k => ?_⟩
 refine q σ H Δ M _ _ r e h fun v H1 x M1 r1 st rv hx => ?_
 exact q2 σ H1 Δ M1 _ _ r1 (e.step st) hx fun vs H2 xs M2 r2 st2 rvs hxs => k (v :: vs) H2 (x :: xs) M2 r2 (st.trans st2) (.cons (rv.step st2) rvs) hxs
def Zfn (t : DTA) : DTE := fun Δ M Φ => t Δ M fun xs M1 => KU xs fun ds => Φ (.dat (.tuple ds)) M1
def Zfs (t : DTA) : DTE := fun Δ M Φ => t Δ M fun xs M1 => KU xs fun ds => Φ (.dat (.list ds)) M1
def Zdb (t : DTA) : DTE := fun Δ M Φ => t Δ M fun xs M1 => KU xs fun ds => ∀ p, M1 p = none → Φ (.own p) (Z8 M1 p (.lst ds))
theorem Zn {x1} (h : DA X es t) : DE X (.Tuple es x1 pos) (Zfn t) := by
 obtain ⟨u, p, q⟩ := h
 refine ⟨_, ZbS p, fun σ H Δ M Φ Q r e h k => ?_⟩
 refine q σ H Δ M _ _ r e h fun vs H1 xs M1 r1 st rv hx => ?_
 replace hx := BN hx
 obtain ⟨ds, rfl, hz', hx⟩ := hx
 have hz : ds.length ≤ sizeLine := by rw [sizeLine_eq]; omega
 have hd := rv.ZdA
 refine ⟨by rw [hd.length]; exact hz, fun p hp => ?_⟩
 exact k.dat (r1.new hp) (st.trans (Step.new hp)) (Dt.XQ r1 hp hd) hx
theorem QA (h : DA X es t) : DE X (.List es pos) (Zfs t) := by
 obtain ⟨u, p, q⟩ := h
 refine ⟨_, PB p, fun σ H Δ M Φ Q r e h k => ?_⟩
 refine q σ H Δ M _ _ r e h fun vs H1 xs M1 r1 st rv hx => ?_
 replace hx := BN hx
 obtain ⟨ds, rfl, hz', hx⟩ := hx
 have hz : ds.length ≤ sizeLine := by rw [sizeLine_eq]; omega
 have hd := rv.ZdA
 refine ⟨by rw [hd.length]; exact hz, fun p hp => ?_⟩
 exact k.dat (r1.new hp) (st.trans (Step.new hp)) (Dt.Vr r1 hp hd) hx
theorem QP (h : DA X es t) : DE X (.List es pos) (Zdb t) := by
 obtain ⟨u, p, q⟩ := h
 refine ⟨_, PB p, fun σ H Δ M Φ Q r e h k => ?_⟩
 refine q σ H Δ M _ _ r e h fun vs H1 xs M1 r1 st rv hx => ?_
 replace hx := BN hx
 obtain ⟨ds, rfl, hz', hx⟩ := hx
 have hz : ds.length ≤ sizeLine := by rw [sizeLine_eq]; omega
 have hd := rv.ZdA
 refine ⟨by rw [hd.length]; exact hz, fun p hp => ?_⟩
 exact k _ _ (.own p) _ (r1.Xl (Step.Xg hp) hd) (st.trans (Step.Xg hp)) rfl (hx p (r1.tracked hp))
def Zfq (t : DTE) : DTE := fun Δ M Φ => t Δ M fun x M1 => onO x fun l => XE (M1 l) fun ds => Φ (.dat (.list ds)) (Ku M1 l)
theorem DB (h : DE X e te) : DE X e (Zfq te) := by
 obtain ⟨u, p, q⟩ := h
 refine ⟨u, p, fun σ H Δ M Φ Q r e h k => ?_⟩
 refine q σ H Δ M _ _ r e h fun v H1 x M1 r1 st rv hx => ?_
 replace hx := Jf hx
 obtain ⟨l, rfl, hx⟩ := hx
 replace hx := Vi hx
 obtain ⟨ds, hm, hx⟩ := hx
 obtain ⟨vs, e1, e2⟩ := r1.ls l ds hm
 cases (show v = .ref l from rv)
 exact k.dat r1.frz (st.trans Step.frz) (Dt.lst (.inl ⟨G5, .inl e1⟩) (e2.step Step.frz)) hx
def Ey : List PyData → Nat → (PyData → Prop) → Prop
 | [], _, _ => False
 | d :: _, 0, P => P d
 | _ :: r, n + 1, P => Ey r n P
def KR (ds : List PyData) (i : Int) (P : PyData → Prop) : Prop := match i with
 | Int.ofNat n => Ey ds n P
 | Int.negSucc n => Ey ds.reverse n P
theorem WG : ∀ {ds : List PyData} {n : Nat} {P : PyData → Prop}, Ey ds n P → ∃ d, ds[n]? = some d ∧ P d
 | [], _, _, h => h.elim
 | d :: _, 0, _, h => ⟨d, rfl, h⟩
 | _ :: r, n + 1, _, h => by
  obtain ⟨d, e, hp⟩ := WG (ds := r) (n := n) h
  exact ⟨d, by rw [List.getElem?_cons_succ]; exact e, hp⟩
theorem W7 : ∀ {ds : List PyData} {n : Nat} {P : PyData → Prop} {d : PyData}, ds[n]? = some d → P d → Ey ds n P
 | [], _, _, _, e, _ => by simp at e
 | d :: _, 0, _, _, e, h => by simp at e; subst e; exact h
 | _ :: r, n + 1, _, _, e, h => W7 (ds := r) (n := n) (by rw [List.getElem?_cons_succ] at e; exact e) h
theorem R1 {ds : List PyData} {i : Int} {P : PyData → Prop} (h : KR ds i P) : ∃ d, atI ds i = some d ∧ P d := by
 unfold KR at h
 split at h
 ·rename_i n
  replace h := WG h
  obtain ⟨d, e, hp⟩ := h
  exact ⟨d, Vh e, hp⟩
 ·rename_i n
  replace h := WG h
  obtain ⟨d, e, hp⟩ := h
  refine ⟨d, ?_, hp⟩
  have hl := (List.getElem?_eq_some_iff.mp e).1
  rw [List.length_reverse] at hl
  rw [List.getElem?_reverse hl] at e
  unfold L2.atI ixN
  have e1 : ¬ (0 ≤ Int.negSucc n) := by omega
  rw [if_neg e1]
  have e2 : -(ds.length : Int) ≤ Int.negSucc n := by omega
  rw [if_pos e2]
  have e3 : (Int.negSucc n + (ds.length : Int)).toNat = ds.length - 1 - n := by omega
  simp only [e3]
  exact e
theorem Q7 {ds : List PyData} {i : Int} {P : PyData → Prop} {d : PyData} (e : atI ds i = some d) (h : P d) : KR ds i P := by
 unfold L2.atI at e
 cases i with
 | ofNat n =>
  have hh : ixN ds.length (Int.ofNat n) = if n < ds.length then some n else none := by
   unfold ixN
   rw [if_pos (show (0 : Int) ≤ Int.ofNat n from Int.natCast_nonneg n)]
   by_cases hn : n < ds.length
   ·rw [if_pos hn, if_pos (show Int.ofNat n < _ by show ((n : Nat) : Int) < _; omega)]
    rfl
   ·rw [if_neg hn, if_neg (show ¬ Int.ofNat n < _ by show ¬ ((n : Nat) : Int) < _; omega)]
  rw [hh] at e
  split at e
  ·exact W7 (by exact e) h
  ·cases e
 | negSucc n =>
  unfold ixN at e
  rw [if_neg (by omega)] at e
  by_cases hn : -(ds.length : Int) ≤ Int.negSucc n
  ·rw [if_pos hn] at e
   have e3 : (Int.negSucc n + (ds.length : Int)).toNat = ds.length - 1 - n := by omega
   simp only [e3] at e
   refine W7 (d := d) ?_ h
   rw [List.getElem?_reverse (by omega)]
   exact e
  ·rw [if_neg hn] at e
   cases e
theorem FW (l : List PyData) (a : PyData) (P : PyData → Prop) : KR (l ++ [a]) (-1) P = P a := by
 show Ey (l ++ [a]).reverse 0 P = P a
 rw [List.reverse_append]
 rfl
def δIx : D2 := fun x y M Φ => onQ x M fun ds => onI y fun i => KR ds i fun d => Φ (.dat d) M
theorem Dts.atI {K : PySem.W.Frag} {M : Mp} {H : Hp} {vs : List V} {ds : List PyData} {i : Int} {d : PyData} (h : Dts K M H vs ds) (e : L2.atI ds i = some d) : ∃ v, L2.atI vs i = some v ∧ Dt K M H v d := by
 unfold L2.atI at e ⊢
 rw [h.length]
 cases q : ixN ds.length i with
 | none => rw [q] at e; cases e
 | some j =>
  rw [q] at e
  exact h.get e
theorem Zg {a b : Expr} {ta tb : DTE} (ha : DE X a ta) (hb : DE X b tb) (hs : autoParam (FE b) zz7._auto_1) : DE X (.Subscript a b pos) (dOp δIx ta tb) := by
 obtain ⟨ta', pa, qa⟩ := ha
 obtain ⟨tb', pb, qb⟩ := hb
 refine ⟨_, ZeC Zch pa pb hs, Snd.opn qa qb fun v u H x y M Φ Q r rv ru h k => ?_⟩
 replace h := Gb h
 obtain ⟨ds, hx, h⟩ := h
 replace h := ZO h
 obtain ⟨i, rfl, h⟩ := h
 replace h := R1 h
 obtain ⟨d, hd, q⟩ := h
 cases ru.int
 rcases hx with rfl | rfl | ⟨l, rfl, hm⟩
 ·obtain ⟨p, xs, rfl, h1, h2⟩ := rv.tup
  obtain ⟨w', e1, e2⟩ := h2.atI hd
  exact .inr (.inl ⟨p, xs, i, w', rfl, rfl, h1.sq, e1, k.dat r Step.refl e2 q⟩)
 ·obtain ⟨p, xs, rfl, h1, h2⟩ := rv.lst
  obtain ⟨w', e1, e2⟩ := h2.atI hd
  exact .inl ⟨p, xs, i, w', rfl, rfl, h1.sq, e1, k.dat r Step.refl e2 q⟩
 ·cases (show v = .ref l from rv)
  obtain ⟨vs, g1, g2⟩ := r.ls l ds hm
  obtain ⟨w', e1, e2⟩ := g2.atI hd
  exact .inl ⟨l, vs, i, w', rfl, rfl, SqL.of g1, e1, k.dat r Step.refl e2 q⟩
end
abbrev D1 := List DV → Mp → DK → Prop
def Yo (X : Cx) (f : Value) (δ : D1) : Prop := ∃ r, V1 X f r ∧ ∀ vs H xs M Φ Q, ZX X.K M H → YA X.K M H vs xs → δ xs M Φ → Rch X.K M H Φ Q → r vs H Q
def dCB (δ : D1) (t : DTA) : DTE := fun Δ M Φ => t Δ M fun xs M1 => δ xs M1 Φ
section
variable {X : Cx} {e : Expr} {es : List Expr} {t : DTA} {pos p : Pos} {x : Str} {id : String} {δ : D1}
theorem Zk (hc : Yo X (.builtin id) δ) (hg : Gl X x) (hm : X.mg x = none) (hv : bootBuiltins x = some (.builtin id)) (ha : DA X (e :: es) t) (hn : autoParam (x ≠ "__name__") zz1._auto_1) (hdb : autoParam ((x == ("__debug__" : Str)) = false) zz1._auto_1)
  (he : autoParam (starEach (e :: es) X.env = (false, eval e X.env) :: starEach es X.env) zz3._auto_1) (hpl : autoParam ((backTo pos (starEach es X.env)).any (·.1) = false) zz3._auto_1) : DE X (.Call (.Name x p) (e :: es) [] pos) (dCB δ t) := by
 obtain ⟨u, p, q⟩ := ha
 obtain ⟨r, hr, qr⟩ := hc
 refine ⟨_, MG hr hg hm hv p hn hdb he hpl, fun σ H Δ M Φ Q r e h k => ?_⟩
 exact q σ H Δ M _ _ r e h fun vs H1 xs M1 r1 st rv hx => qr vs H1 xs M1 _ _ r1 rv hx (k.step st)
theorem QW (hc : Yo X (.type id) δ) (hg : Gl X x) (hm : X.mg x = none) (hv : bootBuiltins x = some (.type id)) (ha : DA X (e :: es) t) (hn : autoParam (x ≠ "__name__") zz1._auto_1) (hdb : autoParam ((x == ("__debug__" : Str)) = false) zz1._auto_1)
  (he : autoParam (starEach (e :: es) X.env = (false, eval e X.env) :: starEach es X.env) zz3._auto_1) (hpl : autoParam ((backTo pos (starEach es X.env)).any (·.1) = false) zz3._auto_1) : DE X (.Call (.Name x p) (e :: es) [] pos) (dCB δ t) := by
 obtain ⟨u, p, q⟩ := ha
 obtain ⟨r, hr, qr⟩ := hc
 refine ⟨_, L3 hr hg hm hv p hn hdb he hpl, fun σ H Δ M Φ Q r e h k => ?_⟩
 exact q σ H Δ M _ _ r e h fun vs H1 xs M1 r1 st rv hx => qr vs H1 xs M1 _ _ r1 rv hx (k.step st)
theorem Paired.one {α β : Type} {F : α → β → Prop} {l : List α} {b : β} (h : Paired F l [b]) : ∃ a, l = [a] ∧ F a b := by
 cases h with
 | cons h1 h2 => cases h2; exact ⟨_, rfl, h1⟩
theorem Paired.two {α β : Type} {F : α → β → Prop} {l : List α} {b c : β} (h : Paired F l [b, c]) : ∃ a a', l = [a, a'] ∧ F a b ∧ F a' c := by
 cases h with
 | cons h1 h2 =>
  obtain ⟨a, rfl, h3⟩ := Paired.one h2
  exact ⟨_, a, rfl, h1, h3⟩
def ZbA : D1 := fun xs M Φ => on1 xs fun x => onQ x M fun ds => Φ (.dat (.int ds.length)) M
theorem Qw : Yo X (.builtin "len") ZbA := by
 refine ⟨_, U8, fun vs H xs M Φ Q r rv h k => ?_⟩
 replace h := Qn h
 obtain ⟨x, rfl, h⟩ := h
 replace h := Gb h
 obtain ⟨ds, hx, q⟩ := h
 have fin : Q (.int ds.length) H := k.dat r Step.refl (Dt.int _) q
 rcases hx with rfl | rfl | ⟨l, rfl, hm⟩
 ·obtain ⟨v, rfl, h1⟩ := Paired.one rv
  obtain ⟨p, ys, rfl, g1, g2⟩ := Q2.tup h1
  exact ⟨p, ys, rfl, .inr g1.sq, by rw [g2.length]; exact fin⟩
 ·obtain ⟨v, rfl, h1⟩ := Paired.one rv
  obtain ⟨p, ys, rfl, g1, g2⟩ := Q2.lst h1
  exact ⟨p, ys, rfl, .inl g1.sq, by rw [g2.length]; exact fin⟩
 ·obtain ⟨v, rfl, h1⟩ := Paired.one rv
  cases (show v = .ref l from h1)
  obtain ⟨ws, g1, g2⟩ := r.ls l ds hm
  exact ⟨l, ws, rfl, .inl (SqL.of g1), by rw [g2.length]; exact fin⟩
def Zaw : D1 := fun xs M Φ => on1 xs fun x => onS x fun z => z.length ≤ sizeLine ∧ Φ (.dat (.int z.length)) M
def Zcs : D1 := fun xs M Φ => on1 xs fun x => onI x fun i => i.natAbs.log2 < 1920 ∧ Φ (.dat (.str (toString i))) M
def Zc6 : D1 := fun xs M Φ => on1 xs fun x => onI x fun i => Φ (.dat (.int (if i < 0 then -i else i))) M
theorem Po : Yo X (.builtin "abs") Zc6 := by
 refine ⟨_, Pc, fun vs H xs M Φ Q r rv h k => ?_⟩
 replace h := Qn h
 obtain ⟨x, rfl, h⟩ := h
 replace h := ZO h
 obtain ⟨i, rfl, q⟩ := h
 obtain ⟨v, rfl, h1⟩ := Paired.one rv
 exact ⟨i, by rw [Q2.int h1], k.dat r Step.refl (Dt.int _) q⟩
def δ2I (g : Int → Int → Int) : D1 := fun xs M Φ => on2 xs fun x y => onI x fun i => onI y fun j => Φ (.dat (.int (g i j))) M
theorem Yb (hc : X.calm = true) : Yo X (.builtin "max") (δ2I fun i j => max i j) := by
 refine ⟨_, Fd hc, fun vs H xs M Φ Q r rv h k => ?_⟩
 replace h := Zx h
 obtain ⟨x, y, rfl, h⟩ := h
 replace h := ZO h
 obtain ⟨i, rfl, h⟩ := h
 replace h := ZO h
 obtain ⟨j, rfl, q⟩ := h
 obtain ⟨v, u, rfl, h1, h2⟩ := Paired.two rv
 have e : (if j > i then j else i) = max i j := by rw [Int.max_def]; split <;> split <;> omega
 exact ⟨i, j, by rw [Q2.int h1, Q2.int h2], by rw [e]; exact k.dat r Step.refl (Dt.int _) q⟩
theorem Ve (hc : X.calm = true) : Yo X (.builtin "min") (δ2I fun i j => min i j) := by
 refine ⟨_, LW hc, fun vs H xs M Φ Q r rv h k => ?_⟩
 replace h := Zx h
 obtain ⟨x, y, rfl, h⟩ := h
 replace h := ZO h
 obtain ⟨i, rfl, h⟩ := h
 replace h := ZO h
 obtain ⟨j, rfl, q⟩ := h
 obtain ⟨v, u, rfl, h1, h2⟩ := Paired.two rv
 have e : (if j < i then j else i) = min i j := by rw [Int.min_def]; split <;> split <;> omega
 exact ⟨i, j, by rw [Q2.int h1, Q2.int h2], by rw [e]; exact k.dat r Step.refl (Dt.int _) q⟩
def Cz : D1 := fun xs M Φ => on1 xs fun x => onQ x M fun ds => Φ (.dat (.list ds)) M
theorem LM : Yo X (.type "list") Cz := by
 refine ⟨_, U1, fun vs H xs M Φ Q r rv h k => ?_⟩
 replace h := Qn h
 obtain ⟨x, rfl, h⟩ := h
 replace h := Gb h
 obtain ⟨ds, hx, q⟩ := h
 rcases hx with rfl | rfl | ⟨l0, rfl, hm⟩
 ·obtain ⟨v, rfl, h1⟩ := Paired.one rv
  obtain ⟨p, ys, rfl, g1, g2⟩ := Q2.tup h1
  exact ⟨p, ys, rfl, .inr g1.sq, fun l hl => k.dat (r.new hl) (Step.new hl) (Dt.Vr r hl g2) q⟩
 ·obtain ⟨v, rfl, h1⟩ := Paired.one rv
  obtain ⟨p, ys, rfl, g1, g2⟩ := Q2.lst h1
  exact ⟨p, ys, rfl, .inl g1.sq, fun l hl => k.dat (r.new hl) (Step.new hl) (Dt.Vr r hl g2) q⟩
 ·obtain ⟨v, rfl, h1⟩ := Paired.one rv
  cases (show v = .ref l0 from h1)
  obtain ⟨ws, g1, g2⟩ := r.ls l0 ds hm
  exact ⟨l0, ws, rfl, .inl (SqL.of g1), fun l hl => k.dat (r.new hl) (Step.new hl) (Dt.Vr r hl g2) q⟩
end
end DL
namespace DL
open PySem PySem.Spec PyProof.Rows L2
mutual
noncomputable def Jd : PyData → Bool
 | .none | .bool _ | .int _ | .str _ => false
 | .list _ => true
 | .tuple xs => QB xs
 | .dict kvs => VU kvs
noncomputable def QB : List PyData → Bool
 | [] => false
 | x :: xs => Jd x || QB xs
noncomputable def VU : List (PyData × PyData) → Bool
 | [] => false
 | (k, v) :: r => Jd k || Jd v || VU r
end
theorem Vq : ∀ (ks ds : List PyData), ks.length = ds.length → VU (ks.zip ds) = false → QB ds = false
 | [], [], _, _ => by simp [QB]
 | k :: ks, d :: ds, h, e => by
  rw [List.zip_cons_cons, VU] at e
  have e' : (Jd k = false ∧ Jd d = false) ∧ VU (ks.zip ds) = false := by simpa using e
  rw [QB, e'.1.2, Vq ks ds (by simpa using h) e'.2]; rfl
 | [], _ :: _, h, _ => by simp at h
 | _ :: _, [], h, _ => by simp at h
section
variable {X : Cx} {pins : List (Addr × Obj)} {σ : L2.St} {H : Hp} {s : Shared} {M : Mp}
theorem GZ {h : Heap} {P : Program} {w : World} : ∀ {es : List DictEntry} {kvs : List (Key × Value)}, Pairs (XR P w) es kvs → ReadsAll h (es.map (·.key)) (kvs.map fun kv => kD kv.1) []
 | _, _, .nil => .nil
 | _, _, .cons (e := e) (kv := kv) h1 _ h3 => by
  rw [List.map_cons, List.map_cons]
  have hk : Reads h e.key (kD kv.1) [] := by
   rcases ZY (k := kv.1) (v := e.key) h1 with ⟨i, t, e1, e2⟩ | ⟨x, t, e1, e2⟩
   ·rw [e1, e2]; exact .int i t
   ·rw [e1, e2]; exact .str x t
  exact .cons (as := []) (bs := []) hk (GZ h3)
theorem Wl {P : Program} {w : World} : ∀ {es : List DictEntry} {kvs : List (Key × Value)}, Pairs (XR P w) es kvs → es.map (·.val) = kvs.map (·.2)
 | _, _, .nil => rfl
 | _, _, .cons h1 h2 h3 => by rw [List.map_cons, List.map_cons, h2, Wl h3]
theorem KV.vals {kvs : List (Key × V)} {vs : List (Key × Value)} (r : KV kvs vs) : Vals (kvs.map (·.2)) (vs.map (·.2)) ∧ (kvs.map fun kv => kD kv.1) = vs.map fun kv => kD kv.1 := by
 unfold KV at r
 induction r with
 | nil => exact ⟨.nil, rfl⟩
 | cons h _ ih => exact ⟨.cons h.2 ih.1, by rw [List.map_cons, List.map_cons, h.1, ih.2]⟩
theorem FO {h : Heap} : ∀ {ks : List Key} {us : List Value}, Vals (ks.map kV) us → ReadsAll h us (ks.map kD) []
 | [], _, r => by rw [List.map_nil] at r; cases r; exact .nil
 | k :: ks, _, r => by
  rw [List.map_cons] at r
  cases r with
  | cons r1 r2 =>
   rw [List.map_cons]
   refine .cons (as := []) (bs := []) ?_ (FO r2)
   cases k with
   | inl i => obtain ⟨t, rfl⟩ := r1; exact .int i t
   | inr x => obtain ⟨t, rfl⟩ := r1; exact .str x t
theorem KT.read (I : Inv X pins σ H s) {kvs : List (List Key × V)} {xs : List (List Key × Addr × Value)} (r : KT H kvs xs) :
  ReadsAll s.heap (xs.map fun x => Value.ref x.2.1) (kvs.map fun kv => PyData.tuple (kv.1.map kD)) [] ∧ Vals (kvs.map (·.2)) (xs.map fun x => x.2.2) := by
 induction r with
 | nil => exact ⟨.nil, .nil⟩
 | @cons p q ps qs h _ ih =>
  obtain ⟨its, r, ⟨o, ho, hc, n, hd⟩, _⟩ := I.tuple (SqT.of (K := X.K) h.2.1)
  rw [List.map_cons, List.map_cons, List.map_cons, List.map_cons]
  exact ⟨.cons (as := []) (bs := []) (.tuple ho hc hd (by simpa using FO r)) ih.1, .cons h.2.2 ih.2⟩
mutual
theorem Dt.reads (I : Inv X pins σ H s) : ∀ {v : V} {d : PyData}, Dt X.K M H v d → ∀ {u : Value}, RelV v u → ∃ as, Reads s.heap u d as ∧ (Jd d = false → sysModules ∉ as)
 | _, _, .non, _, r => by cases r; exact ⟨[], .none, fun _ h => nomatch h⟩
 | _, _, .bl b, _, r => by cases r; exact ⟨[], .bool b, fun _ h => nomatch h⟩
 | _, _, .int i, _, r => by obtain ⟨t, rfl⟩ := r; exact ⟨[], .int i t, fun _ h => nomatch h⟩
 | _, _, .str x, _, r => by obtain ⟨t, rfl⟩ := r; exact ⟨[], .str x t, fun _ h => nomatch h⟩
 | _, _, .tup h1 h2, _, r => by
  cases r
  obtain ⟨its, rv, ⟨o, ho, hc, n, hd⟩, _⟩ := I.tuple h1.sq
  obtain ⟨as, ra, hs⟩ := Dts.reads I h2 rv
  exact ⟨as, .tuple ho hc hd (by simpa using ra), fun h => hs (by simpa [Jd] using h)⟩
 | _, _, .lst h1 h2, _, r => by
  cases r
  obtain ⟨its, rv, ⟨o, n, ho, hc, _, hd⟩, _⟩ := I.list h1.sq
  obtain ⟨as, ra, hs⟩ := Dts.reads I h2 rv
  exact ⟨_, .list ho hc hd (by simpa using ra), fun h => by simp [Jd] at h⟩
 | _, _, .dK (a := a) (kvs := kvs) (ds := ds) h0 h1 h2, _, r => by
  cases r
  obtain ⟨_, hsys, vs, rel, o, es, ep, ho, hc, hd, _, hp, _⟩ := (show J8 X.prog X.w H s.heap a (.dK kvs) from I.hok a _ h1)
  obtain ⟨rv, hk⟩ := KV.vals rel
  obtain ⟨bs, rb, hs⟩ := Dts.reads I h2 rv
  have hl : (kvs.map fun kv => kD kv.1).length = ds.length := by rw [List.length_map, ← h2.length, List.length_map]
  refine ⟨a :: [] ++ bs, .dict (as := []) ho hc.1 hd ?_ ?_, fun h => ?_⟩
  ·rw [List.map_fst_zip (Nat.le_of_eq hl), hk]
   exact GZ hp
  ·rw [List.map_snd_zip (Nat.le_of_eq hl.symm), Wl hp]
   exact rb
  ·have h' : QB ds = false := Vq _ _ hl (by rw [Jd] at h; exact h)
   intro hm
   rcases List.mem_cons.mp hm with e | hm
   ·rw [← e] at hsys
    simp at hsys
   ·exact hs h' hm
 | _, _, .dT (a := a) (kvs := kvs) (ds := ds) h0 h1 h2, _, r => by
  cases r
  obtain ⟨_, hsys, xs, rel, o, es, ep, ho, hc, hd, he, _⟩ := (show J8 X.prog X.w H s.heap a (.dT kvs) from I.hok a _ h1)
  obtain ⟨rk, rv⟩ := KT.read I rel
  obtain ⟨bs, rb, hs⟩ := Dts.reads I h2 rv
  have hl : (kvs.map fun kv => PyData.tuple (kv.1.map kD)).length = ds.length := by rw [List.length_map, ← h2.length, List.length_map]
  refine ⟨a :: [] ++ bs, .dict (as := []) ho hc.1 hd ?_ ?_, fun h => ?_⟩
  ·rw [List.map_fst_zip (Nat.le_of_eq hl), he, List.map_map]
   exact rk
  ·rw [List.map_snd_zip (Nat.le_of_eq hl.symm), he, List.map_map]
   exact rb
  ·have h' : QB ds = false := Vq _ _ hl (by rw [Jd] at h; exact h)
   intro hm
   rcases List.mem_cons.mp hm with e | hm
   ·rw [← e] at hsys
    simp at hsys
   ·exact hs h' hm
 | _, _, .dX (a := a) (dk := dk) (d := d) h0 h1 hsys h3 h4 h5, _, r => by
  cases r
  obtain ⟨hφ, _⟩ := (show J8 X.prog X.w H s.heap a (.ext _) from I.hok a _ h1)
  obtain ⟨o, es, n, u, ho, hc, hd, ek, ev, ru⟩ := h3 s.heap hφ
  obtain ⟨as, ra, ha⟩ := Dt.reads I h4 (u := .ref _) rfl
  obtain ⟨bs, rb, hb⟩ := Dt.reads I h5 ru
  refine ⟨a :: (as ++ []) ++ (bs ++ []), .dict ho hc hd ?_ ?_, fun h => ?_⟩
  ·rw [ek]; exact .cons ra .nil
  ·rw [ev]; exact .cons rb .nil
  ·have h' : Jd dk = false ∧ Jd d = false := by simpa [Jd, VU] using h
   intro hm
   rw [List.append_nil, List.append_nil, List.cons_append] at hm
   rcases List.mem_cons.mp hm with e | hm
   ·rw [← e] at hsys
    simp at hsys
   ·rcases List.mem_append.mp hm with hm | hm
    ·exact ha h'.1 hm
    ·exact hb h'.2 hm
theorem Dts.reads (I : Inv X pins σ H s) : ∀ {vs : List V} {ds : List PyData}, Dts X.K M H vs ds → ∀ {us : List Value}, Vals vs us → ∃ as, ReadsAll s.heap us ds as ∧ (QB ds = false → sysModules ∉ as)
 | _, _, .nil, _, r => by cases r; exact ⟨[], .nil, fun _ h => nomatch h⟩
 | _, _, .cons (d := d) (ds := ds) h1 h2, _, r => by
  cases r with
  | cons r1 r2 =>
   obtain ⟨as, ra, ha⟩ := Dt.reads I h1 r1
   obtain ⟨bs, rb, hb⟩ := Dts.reads I h2 r2
   refine ⟨as ++ bs, .cons ra rb, fun h hm => ?_⟩
   have h' : Jd d = false ∧ QB ds = false := by simpa [QB] using h
   rcases List.mem_append.mp hm with hm | hm
   ·exact ha h'.1 hm
   ·exact hb h'.2 hm
end
end
section
variable {X : Cx}
structure Shw (d : PyData) : Prop where
 s : d.showable = true
 m : (d.hasDict && Jd d) = false
 dp : d.depth ≤ 64
 z : d.shown.length ≤ sizeLine
def ZcO : D1 := fun xs M Φ => on1 xs fun x => onD x fun d => Shw d ∧ Φ (.dat (.str d.shown)) M
noncomputable def tyN : PyData → String
 | .none => "NoneType"
 | .bool _ => "bool"
 | .int _ => "int"
 | .str _ => "str"
 | .list _ => "list"
 | .tuple _ => "tuple"
 | .dict _ => "dict"
theorem HV : V1 X (.builtin "isinstance") (fun xs H Q => ∃ v d M T b, xs = [v, .ty T] ∧ Dt X.K M H v d ∧ PySem.W.kitOne X.K (.type (tyN d)) (.type T) = some b ∧ Q (.bl b) H) := by
 intro pins s σ H xs us Q I r h
 obtain ⟨v, d, M, T, b, rfl, hd, e, q⟩ := h
 obtain ⟨u, w', rfl, ru, rt⟩ := vals2 r
 cases (show w' = Value.type T from rt)
 have fin : ∀ tk, EP X pins σ Q (.bool b) { s with toks := tk } := fun tk => ⟨.bl b, H, I.tok tk, rfl, q⟩
 cases hd with
 | non => cases ru; exact PySem.W.kia_one PySem.W.kitx_none I.kIn True.intro e (fun z => nomatch z) fin
 | bl y => cases ru; exact PySem.W.kia_one PySem.W.kitx_bool I.kIn True.intro e (fun z => nomatch z) fin
 | int i => obtain ⟨t, rfl⟩ := ru; exact PySem.W.kia_one PySem.W.kitx_int I.kIn True.intro e (fun z => nomatch z) fin
 | str y => obtain ⟨t, rfl⟩ := ru; exact PySem.W.kia_one PySem.W.kitx_str I.kIn True.intro e (fun z => nomatch z) fin
 | tup h1 _ =>
  cases ru
  obtain ⟨_, _, ⟨o, ho, hc, _⟩, _⟩ := I.tuple h1.sq
  exact PySem.W.kia_one PySem.W.kitx_tuple I.kIn ⟨o, ho, hc⟩ e (fun z => nomatch z) fin
 | lst h1 _ =>
  cases ru
  obtain ⟨_, _, ⟨o, n, ho, hc, _⟩, _⟩ := I.list h1.sq
  exact PySem.W.kia_one PySem.W.kitx_list I.kIn ⟨o, ho, hc⟩ e (fun z => nomatch z) fin
 | dK _ h1 _ =>
  cases ru
  obtain ⟨_, _, vs, _, p⟩ := (show J8 X.prog X.w H s.heap _ (.dK _) from I.hok _ _ h1)
  obtain ⟨o, es, ep, g1, g2, _⟩ := p
  exact PySem.W.kia_one PySem.W.kitx_dict I.kIn ⟨o, g1, g2.1⟩ e (fun z => nomatch z) fin
 | dT _ h1 _ =>
  cases ru
  obtain ⟨_, _, xs, _, o, es, ep, g1, g2, _⟩ := (show J8 X.prog X.w H s.heap _ (.dT _) from I.hok _ _ h1)
  exact PySem.W.kia_one PySem.W.kitx_dict I.kIn ⟨o, g1, g2.1⟩ e (fun z => nomatch z) fin
 | dX _ h1 _ h3 _ _ =>
  cases ru
  obtain ⟨hφ, _⟩ := (show J8 X.prog X.w H s.heap _ (.ext _) from I.hok _ _ h1)
  obtain ⟨o, es, n, u, ho, hc, _⟩ := h3 s.heap hφ
  exact PySem.W.kia_one PySem.W.kitx_dict I.kIn ⟨o, ho, hc⟩ e (fun z => nomatch z) fin
noncomputable def ZP (T : String) (d : PyData) : Bool := tyN d == T || (T == "int" && tyN d == "bool")
theorem HU (K : PySem.W.Frag) (d : PyData) : PySem.W.kitOne K (.type (tyN d)) (.type "int") = some (ZP "int" d) := by cases d <;> rfl
theorem Dq (K : PySem.W.Frag) (d : PyData) : PySem.W.kitOne K (.type (tyN d)) (.type "bool") = some (ZP "bool" d) := by cases d <;> rfl
theorem kit_tuple (K : PySem.W.Frag) (d : PyData) : PySem.W.kitOne K (.type (tyN d)) (.type "tuple") = some (ZP "tuple" d) := by cases d <;> rfl
def Su (T : String) : D1 := fun xs M Φ => match xs with | [.dat d, .ty t] => t = T ∧ Φ (.dat (.bool (ZP T d))) M | _ => False
theorem K2 {T : String} (ht : ∀ d, PySem.W.kitOne X.K (.type (tyN d)) (.type T) = some (ZP T d)) : Yo X (.builtin "isinstance") (Su T) := by
 refine ⟨_, HV, fun vs H xs M Φ Q r rv h k => ?_⟩
 replace h : ∃ d, xs = [.dat d, .ty T] ∧ Φ (.dat (.bool (ZP T d))) M := by
  unfold Su at h
  split at h
  ·exact ⟨_, by rw [h.1], h.2⟩
  ·exact h.elim
 obtain ⟨d, rfl, q⟩ := h
 obtain ⟨v, u, rfl, h1, h2⟩ := Paired.two rv
 cases (show u = .ty T from h2)
 exact ⟨v, d, M, T, _, rfl, h1, ht d, k.dat r Step.refl (Dt.bl _) q⟩
theorem Za4 (hu : X.A.units + 64 < cLine) : OpR X (compareOp .Eq) (fun x y H Q => ∃ M d e, Dt X.K M H x d ∧ Dt X.K M H y e ∧ d.canLay0 = true ∧ e.canLay0 = true ∧ min d.depth e.depth ≤ 64 ∧ Q (.bl (PyData.eqv d e)) H) := by
 intro pins s σ H x y v u Q I rx ry h
 obtain ⟨M, d, e, h1, h2, c1, c2, hdp, q⟩ := h
 obtain ⟨as, ra, _⟩ := h1.reads I rx
 obtain ⟨bs, rb, _⟩ := h2.reads I ry
 exact PySem.SeqAt.compareEq_reads ra rb c1 c2 (by omega) ⟨.bl _, H, I, rfl, q⟩
theorem Zc5 (hu : X.A.units + 64 < cLine) : OpR X (compareOp .NotEq) (fun x y H Q => ∃ M d e, Dt X.K M H x d ∧ Dt X.K M H y e ∧ d.canLay0 = true ∧ e.canLay0 = true ∧ min d.depth e.depth ≤ 64 ∧ Q (.bl (!PyData.eqv d e)) H) := by
 intro pins s σ H x y v u Q I rx ry h
 obtain ⟨M, d, e, h1, h2, c1, c2, hdp, q⟩ := h
 obtain ⟨as, ra, _⟩ := h1.reads I rx
 obtain ⟨bs, rb, _⟩ := h2.reads I ry
 exact PySem.SeqAt.compareNe_reads ra rb c1 c2 (by omega) ⟨.bl _, H, I, rfl, q⟩
noncomputable def Zbv (d e : PyData) : Bool := d.canLay0 && e.canLay0 && Nat.ble (min d.depth e.depth) 64
def eqD : PyData → PyData → (Bool → Prop) → Prop
 | .int i, .int j, P => P (decide (i = j))
 | .str s, .str t, P => P (decide (s = t))
 | .bool a, .bool b, P => P (a == b)
 | d, e, P => Zbv d e = true ∧ P (PyData.eqv d e)
theorem P9 {d e : PyData} {P : Bool → Prop} (h : Zbv d e = true) (p : P (PyData.eqv d e)) : eqD d e P := by
 unfold eqD
 split
 ·simp only [PyData.eqv] at p
  rw [show decide (_ = _) = (_ == _) from (Bool.beq_eq_decide_eq _ _).symm] at *
  exact p
 ·simp only [PyData.eqv] at p
  rw [show decide (_ = _) = (_ == _) from (Bool.beq_eq_decide_eq _ _).symm] at *
  exact p
 ·simp only [PyData.eqv] at p
  exact p
 ·exact ⟨h, p⟩
theorem P7 {d e : PyData} {P : Bool → Prop} (h : eqD d e P) : (d.canLay0 = true ∧ e.canLay0 = true ∧ min d.depth e.depth ≤ 64 ∧ P (PyData.eqv d e)) ∨ ∃ s t, d = .str s ∧ e = .str t ∧ P (decide (s = t)) := by
 unfold eqD at h
 split at h
 ·refine .inl ⟨by simp [PyData.canLay0], by simp [PyData.canLay0], by simp [PyData.depth], ?_⟩
  simp only [PyData.eqv]
  rw [Bool.beq_eq_decide_eq]
  exact h
 ·exact .inr ⟨_, _, rfl, rfl, h⟩
 ·refine .inl ⟨by simp [PyData.canLay0], by simp [PyData.canLay0], by simp [PyData.depth], ?_⟩
  simp only [PyData.eqv]
  exact h
 ·have h1 := h.1
  unfold Zbv at h1
  simp only [Bool.and_eq_true] at h1
  exact .inl ⟨h1.1.1, h1.1.2, Nat.le_of_ble_eq_true h1.2, h.2⟩
theorem Za7 {f : Value → Value → Sem Value} {r1 r2 : R2} (h1 : OpR X f r1) (h2 : OpR X f r2) : OpR X f (fun x y H Q => r1 x y H Q ∨ r2 x y H Q) :=
 fun pins s σ H x y v u Q I rx ry h => h.elim (h1 pins s σ H x y v u Q I rx ry) (h2 pins s σ H x y v u Q I rx ry)
def δEq : D2 := fun x y M Φ => onD x fun d => onD y fun e => eqD d e fun b => Φ (.dat (.bool b)) M
def δNe : D2 := fun x y M Φ => onD x fun d => onD y fun e => eqD d e fun b => Φ (.dat (.bool (!b))) M
theorem Ja {k : Nat} (hr : Xw k X.A) : OpD X (compareOp .Eq) δEq :=
 ⟨_, Za7 (Za4 hr.units) Zep, fun v u H x y M Φ Q r rv ru h k => by
  obtain ⟨d, e1, h⟩ := QY h
  obtain ⟨e, e2, h⟩ := QY h
  subst e1 e2
  rcases P7 h with ⟨c1, c2, hdp, q⟩ | ⟨s, t, rfl, rfl, q⟩
  ·exact .inl ⟨M, d, e, rv, ru, c1, c2, hdp, k.dat r Step.refl (Dt.bl _) q⟩
  ·have q' : Q (.bl (decide (s = t))) H := k.dat r Step.refl (Dt.bl _) q
   refine .inr ⟨by rw [rv.str, ru.str]; rfl, ?_⟩
   rw [rv.str, ru.str, WO, Bool.beq_eq_decide_eq]
   exact q'⟩
theorem Fg {k : Nat} (hr : Xw k X.A) : OpD X (compareOp .NotEq) δNe :=
 ⟨_, Za7 (Zc5 hr.units) ZeF, fun v u H x y M Φ Q r rv ru h k => by
  obtain ⟨d, e1, h⟩ := QY h
  obtain ⟨e, e2, h⟩ := QY h
  subst e1 e2
  rcases P7 h with ⟨c1, c2, hdp, q⟩ | ⟨s, t, rfl, rfl, q⟩
  ·exact .inl ⟨M, d, e, rv, ru, c1, c2, hdp, k.dat r Step.refl (Dt.bl _) q⟩
  ·have q' : Q (.bl (!decide (s = t))) H := k.dat r Step.refl (Dt.bl _) q
   refine .inr ⟨by rw [rv.str, ru.str]; rfl, ?_⟩
   rw [rv.str, ru.str, WO, Bool.beq_eq_decide_eq]
   exact q'⟩
def Zeo : D2 := fun x y M Φ => onS x fun s => onS y fun t => Φ (.dat (.bool (!decide (s = t)))) M
def Zd9 : D2 := fun x y M Φ => onS x fun s => onS y fun t => Φ (.dat (.bool (decide (s = t)))) M
abbrev DTO := DSt → Mp → (Option Int → Mp → Prop) → Prop
def DO (X : Cx) (e : Option Expr) (τ : DTO) : Prop := ∃ t, PO X e t ∧ ∀ σ H Δ M Φ (Q : Option Int → Hp → Prop), ZX X.K M H → Jn X.K M H σ Δ → τ Δ M Φ → (∀ o H' M', ZX X.K M' H' → Step M H M' H' → Φ o M' → Q o H') → t σ H Q
def FY : DTO := fun _ M Φ => Φ none M
def ZcP (t : DTE) : DTO := fun Δ M Φ => t Δ M fun x M1 => onI x fun i => Φ (some i) M1
theorem BZ : DO X none FY := ⟨_, Sz, fun _ H _ M _ _ r _ h k => k none H M r Step.refl h⟩
theorem Yc {e : Expr} {te : DTE} (h : DE X e te) : DO X (some e) (ZcP te) := by
 obtain ⟨t, p, q⟩ := h
 refine ⟨_, S4 p, fun σ H Δ M Φ Q r e h k => ?_⟩
 refine q σ H Δ M _ _ r e h fun v H1 x M1 r1 st rv hx => ?_
 replace hx := ZO hx
 obtain ⟨i, rfl, hx⟩ := hx
 exact ⟨i, rv.int, k _ H1 M1 r1 st hx⟩
noncomputable def cutD (xs : List PyData) (lo hi : Option Int) : List PyData := (xs.drop (HT.sIx xs.length 0 lo)).take (HT.sIx xs.length xs.length hi - HT.sIx xs.length 0 lo)
theorem Dts.cut {K : PySem.W.Frag} {M : Mp} {H : Hp} {vs : List V} {ds : List PyData} (h : Dts K M H vs ds) (lo hi : Option Int) : Dts K M H (PV vs lo hi) (cutD ds lo hi) := by
 unfold PV cutD
 rw [h.length]
 exact (h.drop _).take _
def Zfz (te : DTE) (tl th : DTO) : DTE := fun Δ M Φ => te Δ M fun x M1 => tl Δ M1 fun l M2 => th Δ M2 fun u M3 => onT x fun ds => ¬ (HT.sIx ds.length 0 l = 0 ∧ HT.sIx ds.length ds.length u = ds.length) ∧ Φ (.dat (.tuple (cutD ds l u))) M3
theorem Lp {e : Expr} {te : DTE} {lo hi : Option Expr} {tl th : DTO} {p2 pos : Pos} (he : DE X e te) (hl : DO X lo tl) (hu : DO X hi th) : DE X (.Subscript e (.Slice lo hi none p2) pos) (Zfz te tl th) := by
 obtain ⟨t1, p1, q1⟩ := he
 obtain ⟨t2, p2, q2⟩ := hl
 obtain ⟨t3, p3, q3⟩ := hu
 refine ⟨_, UM Pg p1 p2 p3, fun σ H Δ M Φ Q r e h k => ?_⟩
 refine q1 σ H Δ M _ _ r e h fun v H1 x M1 r1 st rv hx => ?_
 refine q2 σ H1 Δ M1 _ _ r1 (e.step st) hx fun l H2 M2 r2 st2 hl => ?_
 refine q3 σ H2 Δ M2 _ _ r2 (e.step (st.trans st2)) hl fun u H3 M3 r3 st3 hu => ?_
 replace hu := YE hu
 obtain ⟨ds, rfl, hw, hu⟩ := hu
 obtain ⟨a, xs, rfl, h1, h2⟩ := (rv.step (st2.trans st3)).tup
 refine ⟨a, xs, rfl, h1.sq, by rw [h2.length]; exact hw, fun p hp => ?_⟩
 exact k.dat (r3.new hp) ((st.trans (st2.trans st3)).trans (Step.new hp)) (Dt.XQ r3 hp (h2.cut l u)) hu
end
end DL
namespace DL
open PySem PySem.Spec PyProof.Rows L2
def ZaI : DTS := fun D Δ M => D.nx Δ M
def Zdf (t u : DTS) : DTS := fun D Δ M => t { D with nx := u D } Δ M
section
variable {X : Cx} {st : Stmt} {rest : List Stmt} {t u : DTS} {e : Expr} {te : DTE} {pos : Pos}
theorem Zw : DSs X [] ZaI := ⟨_, R0, fun σ H Δ M D E r e h k => k.nx σ H Δ M r Step.refl e h⟩
theorem Zf (h1 : DS X st t) (h2 : DSs X rest u) : DSs X (st :: rest) (Zdf t u) := by
 obtain ⟨t1, p1, q1⟩ := h1
 obtain ⟨t2, p2, q2⟩ := h2
 refine ⟨_, NK p1 p2, fun σ H Δ M D E r e h k => ?_⟩
 refine q1 σ H Δ M { D with nx := u D } { E with nx := t2 E } r e h ⟨fun σ' H' Δ' M' r' st' e' hn => ?_, k.rt, k.bk, k.ct⟩
 exact q2 σ' H' Δ' M' D E r' e' hn (k.step st')
theorem Zi (h1 : DS X st t) : DSs X [st] t := by
 obtain ⟨t1, p1, q1⟩ := h1
 exact ⟨_, SY p1, q1⟩
def Zaj : DTS := fun D Δ M => D.bk Δ M
def Zec : DTS := fun D Δ M => D.ct Δ M
def ZcG (te : DTE) : DTS := fun D Δ M => te Δ M fun _ M1 => D.nx Δ M1
theorem Va (he : DE X e te) (hs : autoParam (swapsWith e none pos.line X.env = pure false) zz3._auto_1) : DS X (.Expr e pos) (ZcG te) := by
 obtain ⟨t, p, q⟩ := he
 refine ⟨_, Rv p hs, fun σ H Δ M D E r e h k => ?_⟩
 exact q σ H Δ M _ _ r e h fun v H1 x M1 r1 st rv hx => k.nx σ H1 Δ M1 r1 st (e.step st) hx
def Zfe (te : DTE) : DTS := fun D Δ M => te Δ M D.rt
theorem Zm (he : DE X e te) : DS X (.Return (some e) pos) (Zfe te) := by
 obtain ⟨t, p, q⟩ := he
 exact ⟨_, Zba p, fun σ H Δ M D E r e h k => q σ H Δ M _ _ r e h k.rt⟩
def Zd6 : DTS := fun D _ M => D.rt (.dat .none) M
def Zdk (c : DTT) (t u : DTS) : DTS := fun D Δ M => c Δ M fun b M1 => if b = true then t D Δ M1 else u D Δ M1
theorem ZV {c : Expr} {a b : List Stmt} {tc : DTT} (hc : DT X c tc) (ha : DSs X a t) (hb : DSs X b u) : DS X (.If c a b pos) (Zdk tc t u) := by
 obtain ⟨t0, p0, q0⟩ := hc
 obtain ⟨t1, p1, q1⟩ := ha
 obtain ⟨t2, p2, q2⟩ := hb
 refine ⟨_, ZeJ p0 p1 p2, fun σ H Δ M D E r e h k => ?_⟩
 refine q0 σ H Δ M _ _ r e h fun c H1 M1 r1 st hc => ?_
 cases c with
 | true => rw [if_pos rfl]; exact q1 σ H1 Δ M1 D E r1 (e.step st) (by simpa using hc) (k.step st)
 | false => rw [if_neg Bool.false_ne_true]; exact q2 σ H1 Δ M1 D E r1 (e.step st) (by simpa using hc) (k.step st)
abbrev DTG := DV → DSt → Mp → (DSt → Mp → Prop) → Prop
abbrev EM := List DV → DSt → Mp → (DSt → Mp → Prop) → Prop
def DG (X : Cx) (tg : Expr) (τ : DTG) : Prop := ∃ t, PG X tg t ∧ ∀ v σ H x Δ M Φ (Q : L2.St → Hp → Prop), ZX X.K M H → Jn X.K M H σ Δ → Q2 X.K M H v x → τ x Δ M Φ →
 (∀ σ' H' Δ' M', ZX X.K M' H' → Step M H M' H' → Jn X.K M' H' σ' Δ' → Φ Δ' M' → Q σ' H') → t v σ H Q
def DGs (X : Cx) (ts : List Expr) (τ : EM) : Prop := ∃ t, PGs X ts t ∧ ∀ vs σ H xs Δ M Φ (Q : L2.St → Hp → Prop), ZX X.K M H → Jn X.K M H σ Δ → YA X.K M H vs xs → τ xs Δ M Φ →
 (∀ σ' H' Δ' M', ZX X.K M' H' → Step M H M' H' → Jn X.K M' H' σ' Δ' → Φ Δ' M' → Q σ' H') → t vs σ H Q
def Kr (i : Nat) : DTG := fun x Δ M Φ => Φ (Δ.set i (some x)) M
theorem Zl (i : Nat) {x : Str} (hN : X.N.Nodup) (hi : autoParam (X.N[i]? = some x) zz3._auto_1) (hx : autoParam (Loc X.env.scope x) zz8._auto_1) (hf : autoParam (X.fn x = true ∨ X.env.scope.names.lookup x = some .local) zz0._auto_1) :
  DG X (.Name x pos) (Kr i) :=
 ⟨_, LC hN hi hx hf, fun v σ H x Δ M Φ Q r e rv h k => k _ H _ M r Step.refl (e.set rv) h⟩
def TQ : EM := fun xs Δ M Φ => match xs with | [] => Φ Δ M | _ => False
def CW (t : DTG) (u : EM) : EM := fun xs Δ M Φ => match xs with | x :: r => t x Δ M fun Δ' M' => u r Δ' M' Φ | [] => False
theorem Ql : DGs X [] TQ := ⟨_, TY, fun vs σ H xs Δ M Φ Q r e rv h k => by
 cases xs with
 | cons x r => exact h.elim
 | nil =>
 have h2 : Φ Δ M := h
 cases rv
 exact ⟨rfl, k σ H Δ M r Step.refl e h2⟩⟩
theorem Zy {es : List Expr} {t : DTG} {u : EM} (h1 : DG X e t) (h2 : DGs X es u)
  (hs : autoParam ((assignEach (e :: es) X.env).map (·.2) = assign e X.env :: (assignEach es X.env).map (·.2)) zz3._auto_1) : DGs X (e :: es) (CW t u) := by
 obtain ⟨t1, p1, q1⟩ := h1
 obtain ⟨t2, p2, q2⟩ := h2
 refine ⟨_, MM p1 p2 hs, fun vs σ H xs Δ M Φ Q r e rv h k => ?_⟩
 obtain ⟨x, xr, e1, h⟩ : ∃ x xr, xs = x :: xr ∧ t x Δ M fun Δ' M' => u xr Δ' M' Φ := by
  cases xs with
  | nil => exact h.elim
  | cons x xr => exact ⟨x, xr, rfl, h⟩
 subst e1
 cases rv with
 | cons ra rr =>
  refine ⟨_, _, rfl, q1 _ σ H x Δ M _ _ r e ra h fun σ' H' Δ' M' r' st e' h' => ?_⟩
  exact q2 _ σ' H' xr Δ' M' Φ Q r' e' (YA.step rr st) h' fun σ2 H2 Δ2 M2 r2 st2 e2 hΦ => k σ2 H2 Δ2 M2 r2 (st.trans st2) e2 hΦ
def Me : Nat → List PyData → (List DV → Prop) → Prop
 | 0, [], P => P []
 | n + 1, d :: r, P => Me n r fun xs => P (.dat d :: xs)
 | 0, _ :: _, _ => False
 | _ + 1, [], _ => False
theorem BI : ∀ {n : Nat} {ds : List PyData} {P : List DV → Prop}, Me n ds P → ds.length = n ∧ P (ds.map DV.dat)
 | 0, [], _, h => ⟨rfl, h⟩
 | n + 1, d :: r, P, h => by
  obtain ⟨a, b⟩ := BI (n := n) (ds := r) h
  exact ⟨by rw [List.length_cons, a], b⟩
 | 0, _ :: _, _, h => h.elim
 | _ + 1, [], _, h => h.elim
def Zbd (n : Nat) (t : EM) : DTG := fun x Δ M Φ => onT x fun ds => Me n ds fun xs => t xs Δ M Φ
theorem Dts.Tg {K : PySem.W.Frag} {M : Mp} {H : Hp} : ∀ {vs : List V} {ds : List PyData}, Dts K M H vs ds → YA K M H vs (ds.map DV.dat)
 | _, _, .nil => .nil
 | _, _, .cons h1 h2 => .cons h1 (Dts.Tg h2)
theorem Vk {es : List Expr} {k : Nat} {t : EM} {n : Nat} (hc : X.calm = true) (h : DGs X es t) (hn : autoParam ((assignEach es X.env).length = n) zz3._auto_1) (hst : autoParam ((assignEach es X.env).findIdx? (·.1) = none) zz3._auto_1) : DG X (.Tuple es k pos) (Zbd n t) := by
 obtain ⟨t1, p1, q1⟩ := h
 refine ⟨_, Zb6 hc p1 hn hst, fun v σ H x Δ M Φ Q r e rv h k => ?_⟩
 replace h := YE h
 obtain ⟨ds, rfl, h⟩ := h
 replace h := BI h
 obtain ⟨hl, h⟩ := h
 obtain ⟨a, xs, rfl, h1, h2⟩ := rv.tup
 exact ⟨a, xs, rfl, h1.sq, by rw [h2.length]; exact hl, q1 xs σ H _ Δ M Φ Q r e h2.Tg h k⟩
def Zby (to ti : DTE) : DTG := fun x Δ M Φ => to Δ M fun o M1 => ti Δ M1 fun i M2 => onO o fun l => onI i fun k => onD x fun d => XE (M2 l) fun ds => ∃ j, ixN ds.length k = some j ∧ Φ Δ (Z8 M2 l (.lst (ds.set j d)))
theorem Hf {o i : Expr} {to ti : DTE} (ho : DE X o to) (hi : DE X i ti)
  (ha : ∀ v, assign (.Subscript o i pos) X.env v = (do
   let ov ← holding [v] (eval o X.env)
   let iv ← holding [v, ov] (eval i X.env)
   standAt pos
   holding [v, ov, iv] (setItem ov iv v)
   release [v, ov, iv] []) := by intro _; rfl) : DG X (.Subscript o i pos) (Zby to ti) := by
 obtain ⟨t1, p1, q1⟩ := ho
 obtain ⟨t2, p2, q2⟩ := hi
 refine ⟨_, ZaW p1 p2 set_list ha, fun v σ H x Δ M Φ Q r e rv h k => ?_⟩
 refine Snd.bin q1 q2 r e h fun w1 w2 H2 o' i' M2 r2 st ro ri hs => ?_
 replace hs := Jf hs
 obtain ⟨l, rfl, hs⟩ := hs
 replace hs := ZO hs
 obtain ⟨kk, rfl, hs⟩ := hs
 replace hs := QY hs
 obtain ⟨d, rfl, hs⟩ := hs
 replace hs := Vi hs
 obtain ⟨ds, hm, j, hj, hΦ⟩ := hs
 obtain ⟨vs, g1, g2⟩ := r2.ls l ds hm
 cases (show w1 = .ref l from ro)
 have rv2 : Dt X.K M2 H2 v d := Dt.step st rv
 have st2 : Step M2 H2 (Z8 M2 l (.lst (ds.set j d))) (upd H2 l (.lst (vs.set j v))) := Step.De hm
 refine ⟨l, vs, kk, j, rfl, ri.int, g1, by rw [g2.length]; exact hj, ?_⟩
 exact k σ _ Δ _ (r2.Xl st2 (g2.set rv2 j)) (st.trans st2) (e.step (st.trans st2)) hΦ
def Zdd (te : DTE) (g : DTG) : DTS := fun D Δ M => te Δ M fun x M1 => g x Δ M1 D.nx
theorem Jb {tg : Expr} {g : DTG} (he : DE X e te) (hg : DG X tg g) (hs : autoParam (swapsWithSole [tg] e pos.line X.env = pure false) zz3._auto_1) (hw : autoParam (swappedStores [tg] e X.env = pure none) zz3._auto_1)
  (h1 : autoParam ((assignEach [tg] X.env).map (·.2) = [assign tg X.env]) zz3._auto_1) : DS X (.Assign [tg] e pos) (Zdd te g) := by
 obtain ⟨t1, p1, q1⟩ := he
 obtain ⟨t2, p2, q2⟩ := hg
 refine ⟨_, ZbQ p1 p2 hs hw h1, fun σ H Δ M D E r e h k => ?_⟩
 refine q1 σ H Δ M _ _ r e h fun v H1 x M1 r1 st rv hx => ?_
 exact q2 v σ H1 x Δ M1 _ _ r1 (e.step st) rv hx fun σ' H' Δ' M' r' st' e' hn => k.nx σ' H' Δ' M' r' (st.trans st') e' hn
theorem Zv (i : Nat) {x : Str} {pos' : Pos} (hN : X.N.Nodup) (he : DE X e te) (hi : autoParam (X.N[i]? = some x) zz3._auto_1) (hx : autoParam (Loc X.env.scope x) zz8._auto_1) (hs : autoParam (swapsWith e (some (.Name x pos')) pos.line X.env = pure false) zz3._auto_1)
  (hf : autoParam (X.fn x = true ∨ X.env.scope.names.lookup x = some .local) zz0._auto_1) : DS X (.Assign [.Name x pos'] e pos) (Zdd te (Kr i)) := by
 obtain ⟨t1, p1, q1⟩ := he
 refine ⟨_, Zbo hN hi hx p1 hs hf, fun σ H Δ M D E r e h k => ?_⟩
 refine q1 σ H Δ M _ _ r e h fun v H1 x M1 r1 st rv hx => ?_
 exact k.nx _ H1 _ M1 r1 st ((e.step st).set rv) hx
def FK (to te : DTE) : DTE := fun Δ M Φ => to Δ M fun x M1 => onO x fun l => XE (M1 l) fun _ => te Δ M1 fun y M2 => onD y fun d => XE (M2 l) fun ds => ds.length < sizeLine ∧ Φ (.dat .none) (Z8 M2 l (.lst (ds ++ [d])))
theorem Jx {o : Expr} {to : DTE} {apos cpos : Pos} (ho : DE X o to) (he : DE X e te) (hbase : autoParam (attributeBase o "append" X.env (eval o X.env) = eval o X.env) zz3._auto_1)
  (hfew : ((backTo cpos (starEach [e] X.env)).all (fun x => !x.1) && (backToKw cpos (keywordEach [] X.env)).all (fun x => x.1.isSome)
   && decide ([e].length + ([] : List Keyword).length + (if ([] : List Keyword).isEmpty then 0 else 1) < 30)) = true := by rfl)
  (hline : autoParam ((apos.endLine == cpos.line) = true) zz3._auto_1) (hs : autoParam (starEach [e] X.env = (false, eval e X.env) :: starEach [] X.env) zz3._auto_1) (hplain : autoParam ((backTo cpos (starEach [] X.env)).any (·.1) = false) zz3._auto_1) :
  DE X (.Call (.Attribute o "append" apos) [e] [] cpos) (FK to te) := by
 obtain ⟨t1, p1, q1⟩ := ho
 obtain ⟨t2, p2, q2⟩ := he
 refine ⟨_, S8 PySem.F.plainAttrs_list PySem.F.slot_list_append PySem.F.type_list_append La p1 (UI p2 Ct hs) hbase hfew hline hs hplain, fun σ H Δ M Φ Q r e h k => ?_⟩
 refine q1 σ H Δ M _ _ r e h fun v H1 x M1 r1 st rv hx => ?_
 replace hx := Jf hx
 obtain ⟨l, rfl, hx⟩ := hx
 replace hx := Vi hx
 obtain ⟨oo, ho, hx⟩ := hx
 cases (show v = .ref l from rv)
 have ty : tyV X.K "list" (.ref l) H1 := by
  obtain ⟨vs, g1, _⟩ := r1.ls l oo ho
  exact .inl ⟨rfl, vs, SqL.of g1⟩
 refine ⟨ty, q2 σ H1 Δ M1 _ _ r1 (e.step st) hx fun w H2 y M2 r2 st2 rw2 hy => ?_⟩
 replace hy := QY hy
 obtain ⟨d, rfl, hy⟩ := hy
 replace hy := Vi hy
 obtain ⟨ds, hm, hz, hy⟩ := hy
 obtain ⟨vs, g1, g2⟩ := r2.ls l ds hm
 have st3 : Step M2 H2 (Z8 M2 l (.lst (ds ++ [d]))) (upd H2 l (.lst (vs ++ [w]))) := Step.De hm
 refine ⟨l, vs, w, rfl, rfl, g1, by rw [g2.length]; exact hz, ?_⟩
 exact k.dat (r2.Xl st3 (g2.append (.cons rw2 .nil))) (st.trans (st2.trans st3)) Dt.non hy
end
section
variable {X : Cx} {tg iter : Expr} {body : List Stmt} {g : DTG} {tb : DTS} {pos : Pos}
def B3 (g : DTG) (tb : DTS) (D : QD) (ds : List PyData) (Δ : DSt) (M : Mp) : Prop :=
 ∃ J : Nat → DSt → Mp → Prop, J 0 Δ M ∧ (∀ i d Δ M, ds[i]? = some d → J i Δ M → g (.dat d) Δ M fun Δ2 M2 => tb { D with nx := J (i + 1), ct := J (i + 1), bk := D.nx } Δ2 M2) ∧ ∀ Δ M, J ds.length Δ M → D.nx Δ M
def ZbB (te : DTE) (g : DTG) (tb : DTS) : DTS := fun D Δ M => te Δ M fun x M1 => onL x fun ds => B3 g tb D ds Δ M1
def ZbJ (te : DTE) (g : DTG) (tb : DTS) : DTS := fun D Δ M => te Δ M fun x M1 => onT x fun ds => B3 g tb D ds Δ M1
theorem BY {te : DTE} (he : DE X iter te) (hg : DG X tg g) (hb : DSs X body tb) (hp : PassesOwn (model X.prog X.w) X.A X.env X.xe) (hc : X.calm = true) (hs : autoParam (∀ x, foldedSetIterable iter X.env x = pure x) zz2._auto_1) :
  DS X (.For tg iter body [] pos) (ZbB te g tb) := by
 obtain ⟨t1, p1, q1⟩ := he
 obtain ⟨t2, p2, q2⟩ := hg
 obtain ⟨t3, p3, q3⟩ := hb
 refine ⟨_, Dl hp hc (FX p1) p2 p3 hs, fun σ H Δ M D E r e h k => ?_⟩
 refine q1 σ H Δ M _ _ r e h fun v H1 x M1 r1 st rv hx => ?_
 replace hx := K8 hx
 obtain ⟨ds, rfl, J, j0, jt, jd⟩ := hx
 obtain ⟨a, xs, rfl, h1, h2⟩ := rv.lst
 refine ⟨a, rfl, ⟨xs, h1.sq⟩, NO (xs := xs) (fun i σ H => ∃ Δ M, ZX X.K M H ∧ Step M1 H1 M H ∧ Jn X.K M H σ Δ ∧ J i Δ M) ⟨Δ, M1, r1, Step.refl, e.step st, j0⟩
  (fun i σ H _ ⟨Δ, M, _, st', _, _⟩ => (h1.step st').sq) (fun i y σ H hi ⟨Δ, M, r', st', e', j⟩ => ?_) (fun σ H ⟨Δ, M, r', st', e', j⟩ => ?_)⟩
 ·obtain ⟨d, hd, hy⟩ := h2.N3 hi
  refine q2 y σ H (.dat d) Δ M _ _ r' e' (Dt.step st' hy) (jt i d Δ M hd j) fun σ2 H2 Δ2 M2 r2 st2 e2 hb2 => ?_
  refine q3 σ2 H2 Δ2 M2 _ _ r2 e2 hb2 ?_
  have s12 : Step M1 H1 M2 H2 := st'.trans st2
  exact ⟨fun σ' H' Δ' M' a b c d => ⟨Δ', M', a, s12.trans b, c, d⟩, k.rt.step (st.trans s12), fun σ' H' Δ' M' a b c d => k.nx σ' H' Δ' M' a ((st.trans s12).trans b) c d,
   fun σ' H' Δ' M' a b c d => ⟨Δ', M', a, s12.trans b, c, d⟩⟩
 ·rw [h2.length] at j
  exact k.nx σ H Δ M r' (st.trans st') e' (jd Δ M j)
theorem BP {te : DTE} (he : DE X iter te) (hg : DG X tg g) (hb : DSs X body tb) (hp : PassesOwn (model X.prog X.w) X.A X.env X.xe) (hc : X.calm = true) (hs : autoParam (∀ x, foldedSetIterable iter X.env x = pure x) zz2._auto_1) :
  DS X (.For tg iter body [] pos) (ZbJ te g tb) := by
 obtain ⟨t1, p1, q1⟩ := he
 obtain ⟨t2, p2, q2⟩ := hg
 obtain ⟨t3, p3, q3⟩ := hb
 refine ⟨_, Dl hp hc (Px p1) p2 p3 hs, fun σ H Δ M D E r e h k => ?_⟩
 refine q1 σ H Δ M _ _ r e h fun v H1 x M1 r1 st rv hx => ?_
 replace hx := YE hx
 obtain ⟨ds, rfl, J, j0, jt, jd⟩ := hx
 obtain ⟨a, xs, rfl, h1, h2⟩ := rv.tup
 refine ⟨a, rfl, ⟨xs, h1.sq⟩, SR (xs := xs) (fun i σ H => ∃ Δ M, ZX X.K M H ∧ Step M1 H1 M H ∧ Jn X.K M H σ Δ ∧ J i Δ M) ⟨Δ, M1, r1, Step.refl, e.step st, j0⟩
  (fun i σ H _ ⟨Δ, M, _, st', _, _⟩ => (h1.step st').sq) (fun i y σ H hi ⟨Δ, M, r', st', e', j⟩ => ?_) (fun σ H ⟨Δ, M, r', st', e', j⟩ => ?_)⟩
 ·obtain ⟨d, hd, hy⟩ := h2.N3 hi
  refine q2 y σ H (.dat d) Δ M _ _ r' e' (Dt.step st' hy) (jt i d Δ M hd j) fun σ2 H2 Δ2 M2 r2 st2 e2 hb2 => ?_
  refine q3 σ2 H2 Δ2 M2 _ _ r2 e2 hb2 ?_
  have s12 : Step M1 H1 M2 H2 := st'.trans st2
  exact ⟨fun σ' H' Δ' M' a b c d => ⟨Δ', M', a, s12.trans b, c, d⟩, k.rt.step (st.trans s12), fun σ' H' Δ' M' a b c d => k.nx σ' H' Δ' M' a ((st.trans s12).trans b) c d,
   fun σ' H' Δ' M' a b c d => ⟨Δ', M', a, s12.trans b, c, d⟩⟩
 ·rw [h2.length] at j
  exact k.nx σ H Δ M r' (st.trans st') e' (jd Δ M j)
def Ws (g : DTG) (tb : DTS) (D : QD) (lo : Int) (n : Nat) (Δ : DSt) (M : Mp) : Prop :=
 ∃ J : Nat → DSt → Mp → Prop, J 0 Δ M ∧ (∀ i Δ M, i < n → J i Δ M → g (.dat (.int (lo + i))) Δ M fun Δ2 M2 => tb { D with nx := J (i + 1), ct := J (i + 1), bk := D.nx } Δ2 M2) ∧ ∀ Δ M, J n Δ M → D.nx Δ M
theorem Zca {g' : TG} {tb' : TS} {lo : Int} {n : Nat} (q2 : ∀ v σ H x Δ M Φ (Q : L2.St → Hp → Prop), ZX X.K M H → Jn X.K M H σ Δ → Q2 X.K M H v x → g x Δ M Φ →
  (∀ σ' H' Δ' M', ZX X.K M' H' → Step M H M' H' → Jn X.K M' H' σ' Δ' → Φ Δ' M' → Q σ' H') → g' v σ H Q)
  (q3 : ∀ σ H Δ M D E, ZX X.K M H → Jn X.K M H σ Δ → tb D Δ M → X9 X.K M H D E → tb' E σ H) {D : QD} {E : Ends} {σ : L2.St} {H : Hp} {Δ : DSt} {M : Mp} (r : ZX X.K M H) (e : Jn X.K M H σ Δ) (h : Ws g tb D lo n Δ M) (k : X9 X.K M H D E) :
  ∃ W : Nat → Nat → L2.St → Hp → Prop, (∃ m, W 0 m σ H) ∧ ∀ i m σ H, W i m σ H →
   ((Itr lo n).stop i H ∧ E.nx σ H) ∨ ((Itr lo n).go i H ∧ ∃ N : L2.St → Hp → Prop, (∀ σ' H', N σ' H' → ∃ m', m' < m ∧ W (i + 1) m' σ' H') ∧ ∀ x H', (Itr lo n).yld i H x H' → g' x σ H' fun σ2 H2 => tb' { E with nx := N, ct := N, bk := E.nx } σ2 H2) := by
 obtain ⟨J, j0, jt, jd⟩ := h
 refine Lc (fun i σ' H' => ∃ Δ' M', ZX X.K M' H' ∧ Step M H M' H' ∧ Jn X.K M' H' σ' Δ' ∧ J i Δ' M') ⟨Δ, M, r, Step.refl, e, j0⟩ (fun i σ1 H1 hi ⟨Δ1, M1, r', st', e', j⟩ => ?_) (fun σ1 H1 ⟨Δ1, M1, r', st', e', j⟩ => ?_)
 ·refine q2 _ σ1 H1 (.dat (.int (lo + i))) Δ1 M1 _ _ r' e' (Dt.int _) (jt i Δ1 M1 hi j) fun σ2 H2 Δ2 M2 r2 st2 e2 hb2 => ?_
  refine q3 σ2 H2 Δ2 M2 _ _ r2 e2 hb2 ?_
  have s12 : Step M H M2 H2 := st'.trans st2
  exact ⟨fun σ' H' Δ' M' a b c d => ⟨Δ', M', a, s12.trans b, c, d⟩, k.rt.step s12, fun σ' H' Δ' M' a b c d => k.nx σ' H' Δ' M' a (s12.trans b) c d,
   fun σ' H' Δ' M' a b c d => ⟨Δ', M', a, s12.trans b, c, d⟩⟩
 ·exact k.nx σ1 H1 Δ1 M1 r' st' e' (jd Δ1 M1 j)
def InR (j : Int) : Prop := -(2 ^ 62) ≤ j ∧ j < 2 ^ 62
def PH (ta : DTA) (g : DTG) (tb : DTS) : DTS := fun D Δ M => ta Δ M fun xs M1 => on1 xs fun x => onI x fun j => InR j ∧ Ws g tb D 0 j.toNat Δ M1
theorem Vg {a : Expr} {ta : DTA} {p p2 : Pos} (hg0 : Gl X "range") (hm : X.mg "range" = none) (ha : DA X [a] ta) (hg : DG X tg g) (hb : DSs X body tb) (hp : PassesOwn (model X.prog X.w) X.A X.env X.xe) (hc : X.calm = true)
  (hs : autoParam (starEach [a] X.env = [(false, eval a X.env)]) zz3._auto_1) (hs2 : autoParam (∀ x, foldedSetIterable (.Call (.Name "range" p) [a] [] p2) X.env x = pure x) zz2._auto_1) : DS X (.For tg (.Call (.Name "range" p) [a] [] p2) body [] pos) (PH ta g tb) := by
 obtain ⟨t1, p1, q1⟩ := ha
 obtain ⟨t2, p2, q2⟩ := hg
 obtain ⟨t3, p3, q3⟩ := hb
 refine ⟨_, Dl hp hc (U2 hg0 hm p1 hs) p2 p3 hs2, fun σ H Δ M D E r e h k => ?_⟩
 refine q1 σ H Δ M _ _ r e h fun vs H1 xs M1 r1 st rv hx => ?_
 replace hx := Qn hx
 obtain ⟨x, rfl, hx⟩ := hx
 replace hx := ZO hx
 obtain ⟨j, rfl, ⟨h1, h2⟩, hx⟩ := hx
 obtain ⟨v, rfl, hv⟩ := Paired.one rv
 exact ⟨j, by rw [Q2.int hv], h1, h2, Zca q2 q3 r1 (e.step st) hx (k.step st)⟩
def Za8 (ta : DTA) (g : DTG) (tb : DTS) : DTS := fun D Δ M => ta Δ M fun xs M1 => on2 xs fun x y => onI x fun i => onI y fun j => (InR i ∧ InR j) ∧ Ws g tb D i (j - i).toNat Δ M1
end
abbrev DSp := List DV → Mp → DK → Prop
def lift (K : PySem.W.Frag) (S : DSp) : Sp := fun vs H Q _ => ∃ xs M Φ, ZX K M H ∧ YA K M H vs xs ∧ S xs M Φ ∧ Rch K M H Φ Q
def Zbw (S : DSp) (t : DTA) : DTE := fun Δ M Φ => t Δ M fun xs M1 => S xs M1 Φ
section
variable {X : Cx} {CX : CXT} {k : Nat} {f : Addr} {fd : FuncData} {ps : List Str} {S : DSp} {E : XK} {x : Str} {p pos : Pos} {e : Expr} {es : List Expr} {t : DTA}
theorem Zh (F : ZD X.prog X.w X.K X.mg X.base CX k f fd ps (lift X.K S)) (hr : Xw k X.A) (hg : Gl X x) (hm : X.mg x = some (.ref f)) (hk : PySem.W.keepIn X.K (.ref f) = true) (hb : Binds X.K fd ps []) (hx : Passes CX X E)
  (ha : DA X (e :: es) t) (hdb : autoParam ((x == ("__debug__" : Str)) = false) zz1._auto_1) (he : autoParam (starEach (e :: es) X.env = (false, eval e X.env) :: starEach es X.env) zz3._auto_1) (hpl : autoParam ((backTo pos (starEach es X.env)).any (·.1) = false) zz3._auto_1) :
  DE X (.Call (.Name x p) (e :: es) [] pos) (Zbw S t) := by
 obtain ⟨t1, p1, q1⟩ := ha
 refine ⟨_, Rr F hr hg hm hk hb .nil hx p1 hdb he hpl, fun σ H Δ M Φ Q r e h k => ?_⟩
 refine q1 σ H Δ M _ _ r e h fun vs H1 xs M1 r1 st rv hx => ?_
 show lift X.K S (vs ++ []) H1 Q E
 rw [List.append_nil]
 exact ⟨xs, M1, Φ, r1, rv, hx, k.step st⟩
end
section
variable {P : Program} {w : World} {K : PySem.W.Frag} {mg : Str → Option Value} {base : Heap}
theorem okD {x qual : Str} {st : Stmt} {f : Addr} {fd : FuncData} {N ps : List Str} {k : Nat} {S : DSp} (F : Fun K x qual st f fd) (Sc : Zr N ps (Ze st)) (len : ∀ xs M Φ, S xs M Φ → xs.length = ps.length)
  (hbody : ∀ (cdv : Value) (A : Around) (outer : List Env) (s : Shared) (H : Hp) (E : XK), Xw k (A.deeper (envOfC qual (Ze st) s.heap.objs.size f cdv)) →
   ∃ τ, DSs (PM CX0 P w K mg base N qual (Ze st) f cdv A outer s H E).nox (Zq st) τ ∧ ∀ xs M Φ, S xs M Φ → τ { nx := fun _ M' => Φ (.dat .none) M', rt := Φ } (Xk N xs) M) : ZD P w K mg base CX0 (k + 1) f fd ps (lift K S) := by
 refine F.ok Sc (fun vs H Q E h => ?_) fun cdv A outer s H vs Q E hr h => ?_
 ·obtain ⟨xs, M, Φ, _, rv, hs, _⟩ := h
  rw [Paired.length rv]
  exact len xs M Φ hs
 ·obtain ⟨xs, M, Φ, r, rv, hs, kk⟩ := h
  obtain ⟨τ, ⟨t, p, q⟩, hτ⟩ := hbody cdv A outer s H E hr
  refine ⟨t, p, q (start N vs) H (Xk N xs) M _ _ r (Jn.start rv) (hτ xs M Φ hs) ⟨fun σ' H' Δ' M' r' st' e' hn => ?_, kk, fun _ _ _ _ _ _ _ h => h.elim, fun _ _ _ _ _ _ _ h => h.elim⟩⟩
  exact kk.dat r' st' Dt.non hn
end
end DL
namespace DL
open PySem PySem.Spec PyProof.Rows L2
section
variable {X : Cx} {k v : Expr} {pos : Pos}
def At (X : Cx) (e : Expr) (τ : DTE) : Prop := ∃ t, PE X e t ∧ ∀ σ H Δ M Φ, Jn X.K M H σ Δ → τ Δ M Φ → ∃ v x, Q2 X.K M H v x ∧ Φ x M ∧ ∀ (H' : Hp) (Q : VK), Q v H' → t σ H' Q
def ZcH : DTE := fun _ M Φ => Φ (.dat (.dict [])) M
def Gy (x : DV) (P : Key → Prop) : Prop := match x with | .dat (.int i) => P (.inl i) | .dat (.str s) => P (.inr s) | _ => False
noncomputable def NU : List PyData → Option (List Key)
 | [] => some []
 | .int i :: r => (NU r).map (.inl i :: ·)
 | .str s :: r => (NU r).map (.inr s :: ·)
 | _ :: _ => none
def ZdE (ds : List PyData) (P : List Key → Prop) : Prop := match NU ds with | some ks => P ks | none => False
def ZaH (tk tv : DTE) : DTE := fun Δ M Φ => tk Δ M fun x M1 => tv Δ M1 fun y M2 => Gy x fun k => onD y fun d => Φ (.dat (.dict [(kD k, d)])) M2
def ZcS (tk tv tk' tv' : DTE) : DTE := fun Δ M Φ => tk Δ M fun x M1 => tv Δ M1 fun y M2 => tk' Δ M2 fun x' M3 => tv' Δ M3 fun y' M4 => Gy x fun k => onD y fun d => Gy x' fun k' => onD y' fun d' => k ≠ k' ∧ Φ (.dat (.dict [(kD k, d), (kD k', d')])) M4
def Zg2 (a b : Addr) (v : V) (h : Heap) : Prop := ∃ o es n u, h.get? a = some o ∧ o.cls = .type "dict" ∧ o.data = .dict es n ∧ es.toList.map (·.key) = [.ref b] ∧ es.toList.map (·.val) = [u] ∧ RelV v u
def TC (tk tv : DTE) : DTE := fun Δ M Φ => tk Δ M fun x M1 => tv Δ M1 fun y M2 => onT x fun ds => ZdE ds fun ks => onD y fun d => Φ (.dat (.dict [(.tuple (ks.map kD), d)])) M2
theorem SqT.new {K : PySem.W.Frag} {H : Hp} {a p : Addr} {xs : List V} {o : HO} (h : SqT K H a xs) (hp : H p = none) : SqT K (upd H p o) a xs := by
 rcases h with (h | ⟨ob, h⟩) | h
 ·exact .inl (.inl (by rw [ZL (ZC h hp)]; exact h))
 ·exact .inl (.inr ⟨ob, by rw [ZL (ZC h hp)]; exact h⟩)
 ·exact .inr h
end
end DL
namespace DL
open PySem PySem.Spec PyProof.Rows L2
mutual
noncomputable def cost : PyData → Nat
 | .none => 4
 | .bool _ => 5
 | .int _ => 1921
 | .str x => (reprText x).length
 | .list xs => Y0 xs + 2
 | .tuple xs => Y0 xs + 3
 | .dict kvs => UU kvs + 2
noncomputable def Y0 : List PyData → Nat
 | [] => 0
 | x :: xs => cost x + 2 + Y0 xs
noncomputable def UU : List (PyData × PyData) → Nat
 | [] => 0
 | (k, v) :: r => cost k + 2 + cost v + 2 + UU r
end
theorem X7 : ∀ (ts : List Str) (k : Nat) (acc : Str), (textFrom k acc ts).length ≤ acc.length + piled ts
 | [], k, acc => Nat.le_add_right _ _
 | t :: r, k, acc => by
  have h := X7 r (k + 1) (acc ++ (if k > 0 then ", " else "" : String) ++ t)
  have e : (acc ++ (if k > 0 then ", " else "" : String) ++ t).length = acc.length + (if k > 0 then 2 else 0) + t.length := by
   rw [strLen_append, strLen_append]
   split <;> rfl
  have d1 : (if k > 0 then 2 else 0 : Nat) ≤ 2 := by split <;> omega
  rw [e] at h
  rw [piled_cons]
  show (textFrom (k + 1) _ r).length ≤ _
  omega
theorem FR (ts : List Str) : (Str.join ", " ts).length ≤ piled ts := by
 by_cases h : ts = []
 ·subst h; exact Nat.le_of_eq rfl
 ·have := join_length_add ts h
  omega
mutual
theorem VQ : ∀ d : PyData, d.showable = true → d.shown.length ≤ cost d
 | .none, _ => by simp only [PyData.shown, cost]; exact Nat.le_of_eq rfl
 | .bool b, _ => by
  simp only [PyData.shown, cost]
  cases b
  ·exact Nat.le_of_eq rfl
  ·exact (by decide : 4 ≤ 5)
 | .int i, h => by
  simp only [PyData.shown, cost]
  exact int_text_len_1921 (by simpa [PyData.showable] using h)
 | .str x, _ => by simp only [PyData.shown, cost]; exact Nat.le_refl _
 | .list xs, h => by
  have h1 := Vc xs (by simpa [PyData.showable] using h)
  have h2 := X7 (PyData.shownAll xs) 0 "["
  have e1 : ((("[" : String) : Str)).length = 1 := rfl
  have e2 : ((("]" : String) : Str)).length = 1 := rfl
  simp only [PyData.shown, cost]
  unfold listText
  rw [strLen_append, e2]
  rw [e1] at h2
  omega
 | .tuple xs, h => by
  have h1 := Vc xs (by simpa [PyData.showable] using h)
  have h2 := FR (PyData.shownAll xs)
  have e1 : ((("(" : String) : Str)).length = 1 := rfl
  have e3 : (((if (PyData.shownAll xs).length == 1 then ",)" else ")" : String) : Str)).length ≤ 2 := by split <;> decide
  simp only [PyData.shown, cost]
  unfold tupleText
  rw [strLen_append, strLen_append, e1]
  omega
 | .dict kvs, h => by
  have h1 := Xj kvs (by simpa [PyData.showable] using h)
  have h2 := FR (PyData.shownKv kvs)
  have e : (dictText (PyData.shownKv kvs)).length = 1 + (Str.join ", " (PyData.shownKv kvs)).length + 1 := by
   unfold dictText
   rw [strLen_append, strLen_append]; rfl
  simp only [PyData.shown, cost]
  omega
theorem Vc : ∀ xs : List PyData, PyData.showableAll xs = true → piled (PyData.shownAll xs) ≤ Y0 xs
 | [], _ => by simp only [PyData.shownAll, Y0]; exact Nat.le_of_eq rfl
 | x :: xs, h => by
  have h' : x.showable = true ∧ PyData.showableAll xs = true := by simpa [PyData.showableAll] using h
  have h1 := VQ x h'.1
  have h2 := Vc xs h'.2
  simp only [PyData.shownAll, Y0]
  rw [piled_cons]
  omega
theorem Xj : ∀ kvs : List (PyData × PyData), PyData.showableKv kvs = true → piled (PyData.shownKv kvs) ≤ UU kvs
 | [], _ => by simp only [PyData.shownKv, UU]; exact Nat.le_of_eq rfl
 | (k, v) :: r, h => by
  have h' : (k.showable = true ∧ v.showable = true) ∧ PyData.showableKv r = true := by simpa [PyData.showableKv] using h
  have h1 := VQ k h'.1.1
  have h2 := VQ v h'.1.2
  have h3 := Xj r h'.2
  have e : ((k.shown ++ ": " ++ v.shown : Str)).length = k.shown.length + 2 + v.shown.length := by rw [strLen_append, strLen_append]; rfl
  simp only [PyData.shownKv, UU]
  rw [piled_cons, e]
  omega
end
theorem Shw.of {d : PyData} (s : d.showable = true) (m : (d.hasDict && Jd d) = false) (dp : d.depth ≤ 64) (z : cost d ≤ 1000000) : Shw d :=
 ⟨s, m, dp, Nat.le_trans (VQ d s) (Nat.le_trans z (by rw [sizeLine_eq]; decide))⟩
structure Own (K : PySem.W.Frag) (mg : Str → Option Value) (x : Str) (st : Stmt) (ps : List Str) (f : Addr) (fd : FuncData) : Prop where
 F : Fun K x x st f fd
 m : mg x = some (.ref f)
 b : Binds K fd ps []
def Li : DSp := fun xs M Φ => ∃ ns : List Int, xs = [.dat (.list (ns.map PyData.int))] ∧ ns.length ≤ 63 ∧ ∀ M', Φ (.dat (.bool true)) M'
theorem Lb {K : PySem.W.Frag} {H : Hp} {a : Addr} {ns : List Int} (hl : ns.length ≤ 63) (_ : Zds H) (hS : SqL K H a (ns.map V.int)) : lift K Li [.ref a] H (fun v _ => v = .bl true) fun _ _ _ => False := by
 refine ⟨[.dat (.list (ns.map PyData.int))], fun _ => none, fun x _ => x = .dat (.bool true), (show ZX K (fun _ => none) H from ⟨fun b o e => (by cases e)⟩), Paired.cons (Dt.lst ?_ (Dts.ints ns)) Paired.nil, ⟨ns, rfl, hl, fun _ => rfl⟩, fun v H' x M' _ _ rv hx => ?_⟩
 ·rcases hS with h | h
  ·exact .inl ⟨rfl, h⟩
  ·exact .inr h
 ·subst hx
  exact rv.bool
end DL
namespace DL
open PySem PySem.Spec PyProof.Rows L2
theorem Hh {α : Type} {l : List α} {i : Int} (h0 : 0 ≤ i) (h1 : i < l.length) : ∃ d, atI l i = some d ∧ d ∈ l := by
 have hl : i.toNat < l.length := by omega
 refine ⟨l[i.toNat], ?_, List.getElem_mem hl⟩
 have q : atI l ((i.toNat : Nat) : Int) = some l[i.toNat] := Vh (by simp [hl])
 rw [show ((i.toNat : Nat) : Int) = i by omega] at q
 exact q
theorem Zbp : ixN 3 0 = some 0 := rfl
theorem ZbC : ixN 3 1 = some 1 := rfl
theorem Zc1 : ixN 3 2 = some 2 := rfl
theorem Rl {ns : List Int} {j : Int} (h0 : 0 ≤ j) (h1 : j < ns.length) : ∃ c : Int, atI (ns.map PyData.int) j = some (.int c) := by
 obtain ⟨d, e, hm⟩ := Hh (l := ns.map PyData.int) h0 (by rw [List.length_map]; exact h1)
 obtain ⟨c, _, rfl⟩ := List.mem_map.mp hm
 exact ⟨c, e⟩
theorem Ec (x : Int) {m : Int} (h : 0 < m) : 0 ≤ x % m ∧ x % m < m := ⟨Int.emod_nonneg _ (by omega), Int.emod_lt_of_pos _ h⟩
def sp1 (f : PyData → Bool) : DSp := fun xs M Φ => ∃ d, xs = [.dat d] ∧ Φ (.dat (.bool (f d))) M
theorem T7 (k : Int) (h : 0 ≤ k ∧ k ≤ 1000000) : Zax 10 k := ⟨h.1, h.2, by decide⟩
theorem XY {M : Mp} {a : Addr} {o : OO} (h : M a = none) : Ku (Z8 M a o) a = M := by
 funext b
 unfold Ku Z8
 split
 ·rename_i e; rw [e, h]
 ·rfl
theorem Zj {p : Prop} [Decidable p] {A B : Prop} (h1 : p → A) (h2 : ¬ p → B) : if decide p = true then A else B := by
 by_cases h : p
 ·rw [decide_eq_true h, if_pos rfl]; exact h1 h
 ·rw [decide_eq_false h, if_neg Bool.false_ne_true]; exact h2 h
end DL
namespace DL
open PySem PySem.Spec PyProof.Rows L2
noncomputable def C3 (env : Env) : List (Str × NameKind) → List (Str × Addr) → List (Str × Addr)
 | [], cs => cs
 | (n, k) :: r, cs => C3 env r (if (k == NameKind.free) = true then (n, (env.cells.lookup n).getD 0) :: cs else cs)
theorem Wk {env : Env} (f : Str × NameKind → List (Str × Addr) → Sem (ForInStep (List (Str × Addr)))) : ∀ (l : List (Str × NameKind)) (cs : List (Str × Addr)),
  (∀ y ∈ l, ∀ cs, f y cs = pure (.yield (if (y.2 == NameKind.free) = true then (y.1, (env.cells.lookup y.1).getD 0) :: cs else cs))) → forIn l cs f = pure (C3 env l cs)
 | [], cs, _ => by rw [List.forIn_nil]; rfl
 | (n, k) :: r, cs, h => by
  rw [List.forIn_cons, h _ List.mem_cons_self, pure_bind]
  exact Wk f r _ fun y hy => h y (List.mem_cons_of_mem _ hy)
theorem VF {scope : Scope} {env : Env} (h : ∀ y ∈ scope.names, y.2 = .free → ∃ c, env.cells.lookup y.1 = some c) : closureFor scope env = pure (C3 env scope.names []) := by
 simp only [closureFor]
 rw [Wk (env := env) _ scope.names [] (fun y hy cs => by
  obtain ⟨n, k⟩ := y
  by_cases hk : k = .free
  ·subst hk
   obtain ⟨c, e⟩ := h _ hy rfl
   have e' : env.cells.lookup n = some c := e
   simp only [beq_self_eq_true, if_true, cellOf, e', Option.getD_some, pure_bind]
  ·have : (k == NameKind.free) = false := by simpa using hk
   simp only [this, Bool.false_eq_true, if_false])]
 rfl
theorem CY {env : Env} : ∀ {l : List (Str × NameKind)} {cs : List (Str × Addr)} {x : Str} {c : Addr}, (x, c) ∈ C3 env l cs → (x, c) ∈ cs ∨ ((x, NameKind.free) ∈ l ∧ c = (env.cells.lookup x).getD 0)
 | [], _, _, _, h => .inl h
 | (n, k) :: r, cs, x, c, h => by
  rcases CY (l := r) h with h | ⟨h1, h2⟩
  ·by_cases hk : k = .free
   ·subst hk
    rw [if_pos (by simp)] at h
    rcases List.mem_cons.mp h with h | h
    ·cases h
     exact .inr ⟨List.mem_cons_self, rfl⟩
    ·exact .inl h
   ·have : (k == NameKind.free) = false := by simpa using hk
    rw [if_neg (by rw [this]; exact Bool.false_ne_true)] at h
    exact .inl h
  ·exact .inr ⟨List.mem_cons_of_mem _ h1, h2⟩
theorem CB {env : Env} : ∀ {l : List (Str × NameKind)} {cs : List (Str × Addr)} {x : Str}, ((x, NameKind.free) ∈ l ∨ ∃ c, (x, c) ∈ cs) → ∃ c, (x, c) ∈ C3 env l cs
 | [], _, _, h => h.elim (fun z => nomatch z) id
 | (n, k) :: r, cs, x, h => by
  refine CB (l := r) ?_
  rcases h with h | ⟨c, h⟩
  ·rcases List.mem_cons.mp h with h | h
   ·cases h
    exact .inr ⟨_, by rw [if_pos (by simp)]; exact List.mem_cons_self⟩
   ·exact .inl h
  ·refine .inr ⟨c, ?_⟩
   split
   ·exact List.mem_cons_of_mem _ h
   ·exact h
theorem Kw {β : Type} : ∀ {l : List (Str × β)} {x : Str} {c : β}, (x, c) ∈ l → ∃ c', l.lookup x = some c'
 | [], _, _, h => nomatch h
 | (n, d) :: r, x, c, h => by
  rw [List.lookup_cons]
  cases e : x == n with
  | true => exact ⟨d, rfl⟩
  | false =>
   rcases List.mem_cons.mp h with h | h
   ·cases h
    simp at e
   ·exact Kw h
theorem ZR {env : Env} {names : List (Str × NameKind)} (hf : ∀ y ∈ names, y.2 = .free → ∃ c, env.cells.lookup y.1 = some c) {x : Str} {c : Addr} (h : (C3 env names []).lookup x = some c) :
  env.cells.lookup x = some c ∧ (x, NameKind.free) ∈ names := by
 rcases CY (PySem.mem_of_lookup h) with h | ⟨h1, h2⟩
 ·exact nomatch h
 ·obtain ⟨c', e⟩ := hf _ h1 rfl
  have e' : env.cells.lookup x = some c' := e
  rw [e', Option.getD_some] at h2
  subst h2
  exact ⟨e', h1⟩
theorem XD {env : Env} {names : List (Str × NameKind)} (hf : ∀ y ∈ names, y.2 = .free → ∃ c, env.cells.lookup y.1 = some c) {x : Str} (h : (x, NameKind.free) ∈ names) : ∃ c, (C3 env names []).lookup x = some c ∧ env.cells.lookup x = some c := by
 obtain ⟨c, hm⟩ := CB (env := env) (cs := []) (.inl h)
 obtain ⟨c', e⟩ := Kw hm
 exact ⟨c', e, (ZR hf e).1⟩
noncomputable def Z2 (X : Cx) (scope : Scope) (C : Addr) (N : List Str) (ex : List Addr) (s : Shared) (H : Hp) : Cx :=
 { X with N := N, s₀ := s, H₀ := H, env := compEnvC scope (C3 X.env scope.names []) C X.env, outer := X.stack, ex := ex, fn := fun _ => false, pn := [], xe := fun _ _ => False }
noncomputable def QR (ix : List (Option Nat)) (σ : L2.St) : L2.St := ix.map fun o => o.bind fun i => (σ[i]?).join
noncomputable def Ej (ix : List (Option Nat)) (Δ : DSt) : DSt := ix.map fun o => o.bind fun i => (Δ[i]?).join
structure V6 (X : Cx) (scope : Scope) (N : List Str) (ix : List (Option Nat)) : Prop where
 kind : scope.kind = .function
 cellF : ∀ y ∈ scope.names, y.2 ≠ .cell
 names : ∀ y ∈ scope.names, y.2 = .local → scope.names.lookup y.1 = some .local
 free : ∀ y ∈ scope.names, y.2 = .free → X.env.kindOf y.1 = some .cell
 len : N.length = ix.length
 cap : ∀ (j : Nat) (x : Str) (i : Nat), N[j]? = some x → ix[j]? = some (some i) → X.N[i]? = some x ∧ (x, NameKind.free) ∈ scope.names ∧ (relabel scope X.env).names.lookup x = some .cell
theorem Gd {ix : List (Option Nat)} {σ : L2.St} {j : Nat} {v : V} (h : (QR ix σ)[j]? = some (some v)) : ∃ i, ix[j]? = some (some i) ∧ σ[i]? = some (some v) := by
 unfold QR at h
 rw [List.getElem?_map] at h
 cases e : ix[j]? with
 | none => rw [e] at h; cases h
 | some o =>
  rw [e] at h
  cases o with
  | none => simp at h
  | some i =>
   refine ⟨i, rfl, ?_⟩
   have h' : (σ[i]?).join = some v := by simpa using h
   cases q : σ[i]? with
   | none => rw [q] at h'; cases h'
   | some o' => rw [q] at h'; exact congrArg some h'
theorem Jn.cap {K : PySem.W.Frag} {M : Mp} {H : Hp} {σ : L2.St} {Δ : DSt} (h : Jn K M H σ Δ) (ix : List (Option Nat)) : Jn K M H (QR ix σ) (Ej ix Δ) := by
 refine ⟨by unfold QR Ej; rw [List.length_map, List.length_map], fun j x e => ?_⟩
 unfold Ej at e
 rw [List.getElem?_map] at e
 cases q : ix[j]? with
 | none => rw [q] at e; cases e
 | some o =>
  rw [q] at e
  cases o with
  | none => simp at e
  | some i =>
   have e' : (Δ[i]?).join = some x := by simpa using e
   have e2 : Δ[i]? = some (some x) := by
    cases q2 : Δ[i]? with
    | none => rw [q2] at e'; cases e'
    | some o' => rw [q2] at e'; exact congrArg some e'
   obtain ⟨v, hv, rv⟩ := h.at' i x e2
   refine ⟨v, ?_, rv⟩
   unfold QR
   rw [List.getElem?_map, q]
   simp [hv]
section
variable {X : Cx} {pins : List (Addr × Obj)} {σ : L2.St} {H2 : Hp} {s2 : Shared} {scope : Scope} {N : List Str} {ix : List (Option Nat)} {C : Addr} {fp : List Addr}
theorem Zc7 (ok : V6 X scope N ix) (I2 : Inv X pins σ H2 s2) : ∀ y ∈ scope.names, y.2 = .free → ∃ c, X.env.cells.lookup y.1 = some c := fun y hy hk => I2.ok.has y.1 (.inl (ok.free y hy hk))
theorem EH (ok : V6 X scope N ix) (I2 : Inv X pins σ H2 s2) (f2 : ∀ b ∈ fp, UQ X pins H2 b) (ex : ∀ b ∈ fp, ∃ o, s2.heap.get? b = some o) (hC : s2.heap.objs.size ≤ C) : (Z2 X scope C N fp s2 H2).Ok := by
 have hf := Zc7 ok I2
 refine ⟨I2.ok.mod, ok.kind, I2.ok.glob, I2.ok.blt, hC, fun x y c h1 h2 => I2.ok.inj x y c (ZR hf h1).1 (ZR hf h2).1, fun x hx => ?_, fun x c h => absurd h Bool.false_ne_true, I2.ok.hd, I2.ok.frames, .inl rfl, fun b hb => ?_, fun b o e => I2.bs b o e, Nat.le_trans I2.ok.bsz I2.sz,
  fun b o e hb => ?_, fun b hb z => ?_, I2.stack, I2.G8⟩
 ·have hx' : (relabel scope X.env).names.lookup x = some .cell ∨ (relabel scope X.env).names.lookup x = some .free := hx
  have key : (x, NameKind.free) ∈ scope.names := by
   have go : ∀ k', (relabel scope X.env).names.lookup x = some k' → (k' = .cell ∨ k' = .free) → (x, NameKind.free) ∈ scope.names := fun k' e hk => by
    have hm := PySem.mem_of_lookup e
    obtain ⟨⟨n, k⟩, hn, q⟩ := List.mem_map.mp hm
    by_cases hr : (k == NameKind.free && X.env.scope.kind == .function && X.env.kindOf n == some .cell) = true
    ·have q' : (n, NameKind.cell) = (x, k') := by rw [← q]; simp [hr]
     cases q'
     have : k = .free := by simp only [Bool.and_eq_true] at hr; simpa using hr.1.1
     subst this
     exact hn
    ·have q' : (n, k) = (x, k') := by rw [← q]; simp [hr]
     cases q'
     rcases hk with rfl | rfl
     ·exact absurd rfl (ok.cellF _ hn)
     ·exact hn
   rcases hx' with h | h
   ·exact go _ h (.inl rfl)
   ·exact go _ h (.inr rfl)
  obtain ⟨c, h1, _⟩ := XD hf key
  exact ⟨c, h1⟩
 ·obtain ⟨o, e⟩ := ex b hb
  exact ⟨Nat.ne_of_lt (Nat.lt_of_lt_of_le (Heap.lt_size e) hC), fun x c h => (f2 b hb).2.2.2.2.1 x c (ZR hf h).1⟩
 ·rcases (f2 b hb).2.2.2.1 with z | z
  ·exact I2.ok.noex b o e z
  ·exact absurd (Nat.lt_of_lt_of_le (Heap.lt_size e) (Nat.le_trans I2.ok.bsz z)) (Nat.lt_irrefl _)
 ·rcases List.mem_cons.mp (I2.Dh b z) with z | z
  ·exact (f2 b hb).2.1 z
  ·exact (f2 b hb).2.2.1 z
theorem Cu (ok : V6 X scope N ix) (I2 : Inv X pins σ H2 s2) (f2 : ∀ b ∈ fp, UQ X pins H2 b) {s : Shared} {H : Hp} {m : Str → Option Value} (u : Un (frs X.stack) fp H2 H s2.heap s.heap) :
  ∀ (i : Nat) (x : Str) (v : V), N[i]? = some x → (QR ix σ)[i]? = some (some v) → ∃ w, RelV v w ∧ Look (Z2 X scope C N fp s2 H2).env s.heap m x w := fun j x v hN hv => by
 obtain ⟨i, hi, hs⟩ := Gd hv
 obtain ⟨hx, hm, hr⟩ := ok.cap j x i hN hi
 have hk : X.env.kindOf x = some .cell := ok.free _ hm rfl
 obtain ⟨m0, _, hl⟩ := I2.loc
 obtain ⟨w, r, l⟩ := hl i x v hx hs (.inr (.inl hk))
 refine ⟨w, r, .inr ⟨.inl hr, ?_⟩⟩
 rcases l with ⟨z, _⟩ | ⟨_, c, e, hc⟩
 ·rw [hk] at z; cases z
 ·obtain ⟨c', h1, h2⟩ := XD (Zc7 ok I2) hm
  rw [e] at h2
  cases h2
  refine ⟨c, h1, ?_⟩
  obtain ⟨o, ho, hd⟩ := hc
  obtain ⟨sl, q⟩ := u.any ho (I2.freeC x c e) fun z => (f2 c z).2.2.2.2.1 x c e rfl
  exact ⟨_, q, hd⟩
end
end DL
namespace DL
open PySem PySem.Spec PyProof.Rows L2
section
variable {prog : Program} {w : World} {A : Around} {R : Result → Shared → Prop} {s : Shared}
theorem Xq {elt target iter : Expr} {ifs : List Expr} {scope : Scope} {pos : Pos} {it acc : Value} {env : Env} (I : Nat → Shared → Prop)
  (turn : ∀ n s, I n s → wpAny (model prog w) A (pyNext it) (fun r s₁ => match r with
   | none => R (.ok .next) s₁
   | some v => wpAny (model prog w) A (letOwnedTupleGo target it v) (fun _ s₁' => wpAny (model prog w) A (assign target env v) (fun _ s₂ =>
     wpAny (model prog w) A (forIn ifs true fun c r => if r = true then do let ok ← isTrue c env (eval c env); pure (ForInStep.yield ok) else pure (ForInStep.yield r)) (fun ok s₃ =>
      if ok = true then wpAny (model prog w) A (eval elt env) (fun x s₄ =>
       wpAny (model prog w) A (call (.builtin "list.append") [acc, x]) (fun _ s₅ => ∃ m, m < n ∧ I m s₅) (fun _ _ => False) s₄) (fun _ _ => False) s₃
      else ∃ m, m < n ∧ I m s₃) (fun _ _ => False) s₂) (fun _ _ => False) s₁') (fun _ _ => False) s₁) (fun _ _ => False) s)
  (n : Nat) (h : I n s) : codeAny (model prog w) A (.compLoop (.ListComp elt [⟨target, iter, ifs, 0⟩] scope pos) 0 it acc env) R s := by
 refine codeAny_loop rfl I (fun n s hI => ?_) n h
 show wpAny _ A ((compTurn (.ListComp elt [⟨target, iter, ifs, 0⟩] scope pos) 0 it acc env).onRaise (fun x => do noteFrame x env; theTreesLotGoes x)) _ _ s
 refine wpAny_noted ?_
 rw [compTurn_list]
 refine wpAny_bind (wpAny_standAt (wpAny_bind (wpAny_mono (turn n s hI) (fun r s₁ h₁ => ?_) fun _ _ h' => h'.elim)))
 cases r with
 | none => exact wpAny_pure h₁
 | some v =>
  refine wpAny_bind (wpAny_mono h₁ (fun _ s₁' h₁' => ?_) fun _ _ h' => h'.elim)
  refine wpAny_bind (wpAny_mono h₁' (fun _ s₂ h₂ => wpAny_bind (wpAny_mono h₂ (fun ok s₃ h₃ => ?_) fun _ _ h' => h'.elim)) fun _ _ h' => h'.elim)
  cases ok with
  | false => exact wpAny_pure ⟨rfl, h₃⟩
  | true =>
   exact wpAny_bind (wpAny_bind (wpAny_mono h₃ (fun x s₄ h₄ => wpAny_bind (wpAny_mono h₄ (fun _ s₅ h₅ => wpAny_pure (wpAny_pure ⟨rfl, h₅⟩)) fun _ _ h' => h'.elim)) fun _ _ h' => h'.elim))
end
def Yl (K : PySem.W.Frag) (J : It) (ds : List PyData) (M : Mp) (H : Hp) : Prop := ∀ M2 H2, Step M H M2 H2 → ∀ i,
 (i < ds.length → J.go i H2 ∧ ∀ x H', J.yld i H2 x H' → ZX K M2 H2 → ZX K M2 H' ∧ Step M2 H2 M2 H' ∧ ∃ d, ds[i]? = some d ∧ Dt K M2 H' x d) ∧ (ds.length ≤ i → J.stop i H2)
abbrev Yu := DSt → Mp → (List PyData → Mp → Prop) → Prop
def DI (X : Cx) (tg iter : Expr) (src : Yu) : Prop := ∃ wi, PI X tg iter wi ∧ ∀ σ H Δ M Ψ (R : It → Hp → Prop), ZX X.K M H → Jn X.K M H σ Δ → src Δ M Ψ →
 (∀ J H' M' ds, ZX X.K M' H' → Step M H M' H' → Yl X.K J ds M' H' → Ψ ds M' → R J H') → wi σ H R
section
variable {X : Cx} {tg iter : Expr}
def Zfh (te : DTE) : Yu := fun Δ M Ψ => te Δ M fun x M1 => onL x fun ds => Ψ ds M1
def ZeS (te : DTE) : Yu := fun Δ M Ψ => te Δ M fun x M1 => onT x fun ds => Ψ ds M1
theorem JG {te : DTE} (he : DE X iter te) : DI X tg iter (Zfh te) := by
 obtain ⟨t, p, q⟩ := he
 refine ⟨_, FX p, fun σ H Δ M Ψ R dr er h k => ?_⟩
 refine q σ H Δ M _ _ dr er h fun v H1 x M1 r1 st rv hx => ?_
 replace hx := K8 hx
 obtain ⟨ds, rfl, hΨ⟩ := hx
 obtain ⟨a, xs, rfl, h1, h2⟩ := rv.lst
 refine ⟨a, rfl, ⟨xs, h1.sq⟩, k _ H1 M1 ds r1 st (fun M2 H2 st2 i => ⟨fun hi => ?_, fun hi => ?_⟩) hΨ⟩
 ·have hx : i < xs.length := by rw [h2.length]; exact hi
  refine ⟨⟨xs, xs[i], (h1.step st2).sq, by simp [hx]⟩, fun x H' y => ?_⟩
  obtain ⟨e, y⟩ := y
  obtain ⟨d, hd, hy⟩ := (h2.step st2).N3 (y xs (h1.step st2).sq)
  subst e
  exact fun r => ⟨r, Step.refl, d, hd, hy⟩
 ·exact ⟨xs, (h1.step st2).sq, by rw [h2.length]; exact hi⟩
theorem Kb {te : DTE} (he : DE X iter te) : DI X tg iter (ZeS te) := by
 obtain ⟨t, p, q⟩ := he
 refine ⟨_, Px p, fun σ H Δ M Ψ R dr er h k => ?_⟩
 refine q σ H Δ M _ _ dr er h fun v H1 x M1 r1 st rv hx => ?_
 replace hx := YE hx
 obtain ⟨ds, rfl, hΨ⟩ := hx
 obtain ⟨a, xs, rfl, h1, h2⟩ := rv.tup
 refine ⟨a, rfl, ⟨xs, h1.sq⟩, k _ H1 M1 ds r1 st (fun M2 H2 st2 i => ⟨fun hi => ?_, fun hi => ?_⟩) hΨ⟩
 ·have hx : i < xs.length := by rw [h2.length]; exact hi
  refine ⟨⟨xs, xs[i], (h1.step st2).sq, by simp [hx]⟩, fun x H' y => ?_⟩
  obtain ⟨e, y⟩ := y
  obtain ⟨d, hd, hy⟩ := (h2.step st2).N3 (y xs (h1.step st2).sq)
  subst e
  exact fun r => ⟨r, Step.refl, d, hd, hy⟩
 ·exact ⟨xs, (h1.step st2).sq, by rw [h2.length]; exact hi⟩
noncomputable def K4 (lo : Int) (n : Nat) : List PyData := (List.range n).map fun (i : Nat) => PyData.int (lo + (i : Int))
theorem C2 (lo : Int) (n : Nat) : (K4 lo n).length = n := by unfold K4; rw [List.length_map, List.length_range]
theorem Dw {lo : Int} {n i : Nat} (h : i < n) : (K4 lo n)[i]? = some (.int (lo + (i : Int))) := by
 unfold K4
 rw [List.getElem?_map, List.getElem?_range h]
 rfl
theorem MZ {K : PySem.W.Frag} {M : Mp} {H : Hp} (lo : Int) (n : Nat) : Yl K (Itr lo n) (K4 lo n) M H := fun M2 H2 st2 i => by
 rw [C2]
 refine ⟨fun hi => ⟨hi, fun x H' y => ?_⟩, fun hi => hi⟩
 obtain ⟨e, y⟩ := y
 subst y e
 exact fun r => ⟨r, Step.refl, _, Dw hi, Dt.int _⟩
def Zam (ta : DTA) : Yu := fun Δ M Ψ => ta Δ M fun xs M1 => on1 xs fun x => onI x fun j => InR j ∧ Ψ (K4 0 j.toNat) M1
theorem VJ {a : Expr} {ta : DTA} {p p2 : Pos} (hg0 : Gl X "range") (hm : X.mg "range" = none) (ha : DA X [a] ta) (hs : autoParam (starEach [a] X.env = [(false, eval a X.env)]) zz3._auto_1) : DI X tg (.Call (.Name "range" p) [a] [] p2) (Zam ta) := by
 obtain ⟨t1, p1, q1⟩ := ha
 refine ⟨_, U2 hg0 hm p1 hs, fun σ H Δ M Ψ R dr er h k => ?_⟩
 refine q1 σ H Δ M _ _ dr er h fun vs H1 xs M1 r1 st rv hx => ?_
 replace hx := Qn hx
 obtain ⟨x, rfl, hx⟩ := hx
 replace hx := ZO hx
 obtain ⟨j, rfl, ⟨h1, h2⟩, hΨ⟩ := hx
 obtain ⟨v, rfl, hv⟩ := Paired.one rv
 exact ⟨j, by rw [Q2.int hv], h1, h2, k _ H1 M1 _ r1 st (MZ 0 j.toNat) hΨ⟩
def Zed (ta : DTA) : Yu := fun Δ M Ψ => ta Δ M fun xs M1 => on2 xs fun x y => onI x fun i => onI y fun j => (InR i ∧ InR j) ∧ Ψ (K4 i (j - i).toNat) M1
end
def CH (ow : Bool) (Φ : DK) (acc : List PyData) (M : Mp) : Prop := match ow with | true => ∀ p, M p = none → Φ (.own p) (Z8 M p (.lst acc)) | false => Φ (.dat (.list acc)) M
def LV (ow : Bool) (src : Yu) (ix : List (Option Nat)) (g : DTG) (tc : DTT) (te : DTE) : DTE := fun Δ M Φ => src Δ M fun ds M1 => ds.length ≤ sizeLine ∧ ∃ J : Nat → List PyData → Mp → Prop, J 0 [] M1 ∧
 (∀ i d acc M', ds[i]? = some d → J i acc M' → g (.dat d) (Ej ix Δ) M' fun Δ2 M2 => tc Δ2 M2 fun b M3 => if b = true then te Δ2 M3 fun y M4 => onD y fun e => J (i + 1) (acc ++ [e]) M4 else J (i + 1) acc M3) ∧
 ∀ acc M', J ds.length acc M' → CH ow Φ acc M'
def DTs (X : Cx) (ifs : List Expr) (τ : DTT) : Prop := ∀ (pins : List (Addr × Obj)) (s : Shared) (σ : L2.St) (H : Hp) (Δ : DSt) (M : Mp) (Φ : Bool → Mp → Prop), L2.Inv X pins σ H s → ZX X.K M H → Jn X.K M H σ Δ → τ Δ M Φ →
 wpAny (model X.prog X.w) X.A (forIn ifs true fun c r => if r = true then do let ok ← isTrue c X.env (eval c X.env); pure (ForInStep.yield ok) else pure (ForInStep.yield r))
  (fun b s' => ∃ H' M', L2.Inv X pins σ H' s' ∧ ZX X.K M' H' ∧ Step M H M' H' ∧ Φ b M') X.xe s
def Ze8 : DTT := fun _ M Φ => Φ true M
theorem Z0 {X : Cx} : DTs X [] Ze8 := fun pins s σ H Δ M Φ I dr er h => wpAny_tests_nil ⟨H, M, I, dr, Step.refl, h⟩
theorem B6 {X : Cx} {c : Expr} {τ : DTT} (hc : DT X c τ) : DTs X [c] τ := fun pins s σ H Δ M Φ I dr er h => by
 obtain ⟨t, p, q⟩ := hc
 refine wpAny_tests_one (thn (p pins s σ H (fun b H' => ∃ M', ZX X.K M' H' ∧ Step M H M' H' ∧ Φ b M') I (q σ H Δ M Φ _ dr er h fun b H' M' a c d => ⟨M', a, c, d⟩)) fun b s' h => ?_)
 obtain ⟨H', I', M', a, c, d⟩ := h
 exact ⟨H', M', I', a, c, d⟩
end DL
namespace DL
open PySem PySem.Spec PyProof.Rows L2
section
variable {X : Cx}
abbrev CompSrc (ds : List PyData) (M1 : Mp) (Δ : DSt) (ix : List (Option Nat)) (g : DTG) (tc : DTT) (te : DTE) (ψ : List PyData → Mp → Prop) : Prop := ds.length ≤ sizeLine ∧ ∃ J : Nat → List PyData → Mp → Prop, J 0 [] M1 ∧
 (∀ i d acc M', ds[i]? = some d → J i acc M' → g (.dat d) (Ej ix Δ) M' fun Δ2 M2 => tc Δ2 M2 fun b M3 => if b = true then te Δ2 M3 fun y M4 => onD y fun e => J (i + 1) (acc ++ [e]) M4 else J (i + 1) acc M3) ∧ ∀ acc M', J ds.length acc M' → ψ acc M'
set_option maxHeartbeats 2000000 in
theorem UZ {elt tg iter : Expr} {ifs : List Expr} {scope : Scope} {pos ps : Pos} {src : Yu} {N : List Str} {ix : List (Option Nat)} {g : DTG} {tc : DTT} {te : DTE} {use : Option (Value → Sem Unit)} {QQ : Value → Shared → Prop} {ψ : List PyData → Mp → Prop} (ok : V6 X scope N ix) (hi : DI X tg iter src)
  (hg : ∀ C ex s H, DG (Z2 X scope C N ex s H) tg g) (ht : ∀ C ex s H, DTs (Z2 X scope C N ex s H) ifs tc) (he : ∀ C ex s H, DE (Z2 X scope C N ex s H) elt te) (hc : X.calm = true)
  (hs : ∀ x, foldedSetIterable iter X.env x = pure x) {σ : L2.St} {H : Hp} {Δ : DSt} {M : Mp} {pins : List (Addr × Obj)} {s : Shared} (dr : ZX X.K M H) (er : Jn X.K M H σ Δ) (h : src Δ M fun ds M1 => CompSrc ds M1 Δ ix g tc te ψ) (I : L2.Inv X pins σ H s)
  (hfin : ∀ (s4 : Shared) (C D : Addr) (H' : Hp) (M' : Mp) (vs : List V) (acc : List PyData), L2.Inv X pins σ (upd H' D (.lst vs)) s4 → H' D = none → ZX X.K M' H' → Step M H M' H' → Dts X.K M' H' vs acc → ψ acc M' → (∃ m, s4.heap.Ns C m) → UQ X pins (upd H' D (.lst vs)) C →
   compPost (model X.prog X.w) X.A X.xe use QQ (.ref D) C (.ok .next) s4) :
  wpAny (model X.prog X.w) X.A (comprehension (.ListComp elt [⟨tg, iter, ifs, 0⟩] scope pos) scope X.env ps (newList []) false (eval iter X.env) use) QQ X.xe s := by
 obtain ⟨wi, pi, qi⟩ := hi
 refine wpAny_comprehension_free (use := use) (cl := C3 X.env scope.names []) rfl hs (VF (Zc7 ok I)) ok.kind ok.names ?_
 show wpAny _ _ (eval iter X.env) _ _ s
 refine thn (pi pins s σ H (fun J H' => ∃ M' ds, ZX X.K M' H' ∧ Step M H M' H' ∧ Yl X.K J ds M' H' ∧ ds.length ≤ sizeLine ∧ ∃ W : Nat → List PyData → Mp → Prop, W 0 [] M' ∧
   (∀ i d acc M', ds[i]? = some d → W i acc M' → g (.dat d) (Ej ix Δ) M' fun Δ2 M2 => tc Δ2 M2 fun b M3 => if b = true then te Δ2 M3 fun y M4 => onD y fun e => W (i + 1) (acc ++ [e]) M4 else W (i + 1) acc M3) ∧
   ∀ acc M', W ds.length acc M' → ψ acc M') I (qi σ H Δ M _ _ dr er h fun J H' M' ds a b c d => ⟨M', ds, a, b, c, d⟩)) fun x s1 h1 => thn h1 fun itv s2 h2 => ?_
 obtain ⟨it, fp, tn, J, H2, e, I2, T, st2, f2, M1, ds, dr1, stp, yl, hz, W, w0, wt, wd⟩ := h2
 subst e
 have exo : ∀ b ∈ fp, ∃ o, s2.heap.get? b = some o := fun b hb => let ⟨o, q, _⟩ := T.obj 0 _ st2 b hb; ⟨o, q⟩
 refine wpAny_newObj_type (wpAny_newFunctionEnv ok.cellF (by intro y hy; simp at hy) (fun h₁ hns₁ hsb₁ => ?_) ok.kind)
 dsimp only at hns₁ hsb₁ ⊢
 generalize hH2 : s2.heap.push { cls := .type "list", dict := none, data := .seq ([] : List Value).toArray } = HH at hns₁ hsb₁ ⊢
 have hC : HH.objs.size = s2.heap.objs.size + 1 := by rw [← hH2, Heap.size_push]
 have hDC : s2.heap.objs.size ≠ HH.objs.size := by rw [hC]; exact Nat.ne_of_lt (Nat.lt_succ_self _)
 have hCle : s2.heap.objs.size ≤ HH.objs.size := by rw [hC]; exact Nat.le_succ _
 have below : ∀ b, b < s2.heap.objs.size → b ≠ HH.objs.size ∧ b ≠ s2.heap.objs.size := fun b hb => ⟨by rw [hC]; exact Nat.ne_of_lt (Nat.lt_succ_of_lt hb), Nat.ne_of_lt hb⟩
 have old : ∀ b o, s2.heap.get? b = some o → h₁.get? b = some o := fun b o e => hsb₁.extBut b o (below b (Heap.lt_size e)).1 (Heap.get?_push_of_some _ (hH2 ▸ Heap.get?_push_of_some _ e))
 have hacc : h₁.get? s2.heap.objs.size = some { cls := .type "list", data := .seq ([] : List Value).toArray } := hsb₁.extBut _ _ hDC (Heap.get?_push_of_some _ (hH2 ▸ Heap.get?_push_size _ rfl))
 generalize hCC : HH.objs.size = C at *
 generalize hDD : s2.heap.objs.size = D at hDC hacc below hCle
 have hDs : s2.heap.objs.size ≤ D := Nat.le_of_eq hDD
 have hCs : s2.heap.objs.size ≤ C := by rw [hDD]; exact hCle
 have fD : ∀ b ∈ fp, b ≠ D ∧ b ≠ C := fun b hb => by
  obtain ⟨o, q⟩ := exo b hb
  exact ⟨(below b (by rw [← hDD]; exact Heap.lt_size q)).2, (below b (by rw [← hDD]; exact Heap.lt_size q)).1⟩
 have okY : (Z2 X scope C N fp s2 H2).Ok := EH ok I2 f2 exo hCs
 have fsD : ∀ b ∈ frs X.stack, b < s2.heap.objs.size := fun b hb => by
  obtain ⟨_, o, ho, _⟩ := I2.stack.mem hb
  exact Heap.lt_size ho
 have cellD : ∀ x c, (Z2 X scope C N fp s2 H2).env.cells.lookup x = some c → c < s2.heap.objs.size ∧ H2 c = none := fun x c e => by
  have e' := (ZR (Zc7 ok I2) e).1
  obtain ⟨v, q⟩ := I2.cell x c e'
  exact ⟨q.lt, I2.freeC x c e'⟩
 have fpY : ∀ {H' : Hp} {ps : List (Addr × Obj)}, (∀ b ∈ fp, H' b = none) → (∀ p ∈ ps, p.1 = D) → ∀ b ∈ fp, UQ (Z2 X scope C N fp s2 H2) ps H' b := fun {H' ps} hn hp b hb =>
  ⟨hn b hb, (fD b hb).2, okY.exfs b hb, .inl hb, (okY.exf b hb).2, fun p hp' z => by
   have q : p ∈ ps := hp'
   rw [hp p q] at z
   exact (fD b hb).1 z.symm⟩
 have onlyD : ∀ (o : Obj), ∀ p ∈ [(D, o)], p.1 = D := fun o p hp => by
  have q : p = (D, o) := by simpa using hp
  rw [q]
 have reloc : ∀ {ps : List (Addr × Obj)} {σ' : L2.St} {H' : Hp} {s' : Shared} {o : Obj}, L2.Inv (Z2 X scope C N fp s2 H2) ps σ' H' s' → s'.heap.get? D = some o → H' D = none → (∀ v, o.data ≠ .cell v) →
   L2.Inv (Z2 X scope C N fp s2 H2) [(D, o)] (QR ix σ) H' s' := fun {ps σ' H' s' o} J' hD hn hd => by
  obtain ⟨m, hm, _⟩ := J'.loc
  refine ⟨J'.ok, J'.os, J'.bare, J'.base, ⟨m, hm, fun i x v a b _ => Cu ok I2 f2 J'.base i x v a b⟩, J'.cell, J'.free, J'.freeC, fun p hp => ?_, J'.hok, ?_⟩
  ·have q : p = (D, o) := by
    have z : p ∈ ([] : List (Addr × Obj)) ++ [(D, o)] := hp
    simpa using z
   subst q
   exact ⟨hD, hn, hDC, fun z => absurd (fsD D z) (Nat.not_lt.mpr hDs), hd⟩
  ·show (QR ix σ).length = N.length
   unfold QR
   rw [List.length_map, ok.len]
 have start : L2.Inv (Z2 X scope C N fp s2 H2) [(D, { cls := .type "list", data := .seq ([] : List Value).toArray })] (QR ix σ) H2 { s2 with heap := h₁, toks := s2.toks + ([] : List (Str × Value)).length } := by
  refine ⟨okY, rfl, I2.bare, Un.kept old, ⟨_, hns₁, fun i x v a b _ => Cu ok I2 f2 (Un.kept old) i x v a b⟩, fun x c e => ?_, I2.hok.fresh hCs, fun x c e => (cellD x c e).2, fun p hp => ?_, I2.hok.kept old, ?_⟩
  ·obtain ⟨v, o, ho, hd⟩ := I2.cell x c (ZR (Zc7 ok I2) e).1
   exact ⟨v, o, old c o ho, hd⟩
  ·have q : p = (D, { cls := .type "list", data := .seq ([] : List Value).toArray }) := by
    have z : p ∈ ([] : List (Addr × Obj)) ++ [(D, { cls := .type "list", data := .seq ([] : List Value).toArray })] := hp
    simpa using z
   subst q
   exact ⟨hacc, I2.hok.fresh hDs, hDC, fun z => absurd (fsD D z) (Nat.not_lt.mpr hDs), fun v z => nomatch z⟩
  ·show (QR ix σ).length = N.length
   unfold QR
   rw [List.length_map, ok.len]
 have loop : ∀ s₃ : Shared, s₃ = { s2 with heap := h₁, toks := s2.toks + ([] : List (Str × Value)).length } →
   codeAny (model X.prog X.w) X.A (.compLoop (.ListComp elt [⟨tg, iter, ifs, 0⟩] scope pos) 0 (.ref it) (.ref D) (compEnvC scope (C3 X.env scope.names []) C X.env)) (compPost (model X.prog X.w) X.A X.xe use QQ (.ref D) C) s₃ := by
  rintro s₃ rfl
  refine Xq (fun n s' => ∃ (i : Nat) (acc : List PyData) (vs : List V) (its : List Value) (nn : Nat) (H' : Hp) (M' : Mp), L2.Inv (Z2 X scope C N fp s2 H2) [(D, { cls := .type "list", data := .seq its.toArray nn })] (QR ix σ) H' s' ∧
   tn i s'.heap ∧ (∀ b ∈ fp, H' b = none) ∧ ZX X.K M' H' ∧ Step M1 H2 M' H' ∧ Vals vs its ∧ Dts X.K M' H' vs acc ∧ W i acc M' ∧ i ≤ ds.length ∧ acc.length ≤ i ∧ n = ds.length - i) ?_ ds.length
   ⟨0, [], [], [], 0, H2, M1, start, T.keep _ _ _ st2 (fun b _ o e => old b o e), fun b hb => (f2 b hb).1, dr1, Step.refl, .nil, .nil, w0, Nat.zero_le _, Nat.le_refl _, rfl⟩
  rintro n s' ⟨i, acc, vs, its, nn, H', M', IY, ti, fr, dr', stp', rv, rd, wi', hil, hal, rfl⟩
  have pinD := IY.pin (D, { cls := .type "list", data := .seq its.toArray nn }) (by simp)
  have fok := fpY (ps := [(D, { cls := .type "list", data := .seq its.toArray nn })]) fr (onlyD _)
  obtain ⟨ygo, ystop⟩ := yl M' H' stp' i
  by_cases hlt : i < ds.length
  ·obtain ⟨jgo, jyl⟩ := ygo hlt
   refine thn (T.item (Z2 X scope C N fp s2 H2) rfl rfl rfl hc i _ s' (QR ix σ) H' (fun _ _ => False) IY fok ti jgo) fun r s4 ⟨u, hr, h4⟩ => ?_
   subst hr
   refine thn h4 fun _ s5 ⟨x, H5, I5, r5, y5, st5, fr5⟩ => ?_
   obtain ⟨dr5, stp5, d, hd, hxd⟩ := jyl x H5 y5 dr'
   replace dr' := dr5
   replace stp' := stp'.trans stp5
   replace rd := rd.step stp5
   have I5' := I5.pinned (fpY (ps := [(D, { cls := .type "list", data := .seq its.toArray nn })]) fr5 (onlyD _)) (T.obj _ _ st5)
   obtain ⟨tg', pg, qg⟩ := hg C fp s2 H2
   refine thn (pg _ s5 (QR ix σ) H5 x u (fun σ6 H6 => ∃ Δ6 M6, ZX X.K M6 H6 ∧ Step M' H5 M6 H6 ∧ Jn X.K M6 H6 σ6 Δ6 ∧ tc Δ6 M6 fun b M3 => if b = true then te Δ6 M3 fun y M4 => onD y fun e => W (i + 1) (acc ++ [e]) M4 else W (i + 1) acc M3) I5' r5
    (qg x (QR ix σ) H5 (.dat d) (Ej ix Δ) M' _ _ dr' ((er.step (stp.trans stp')).cap ix) hxd (wt i d acc M' hd wi') fun σ6 H6 Δ6 M6 a b c d => ⟨Δ6, M6, a, b, c, d⟩)) fun _ s6 ⟨σ6, H6, I6, Δ6, M6, dr6, stp6, er6, q6⟩ => ?_
   refine thn (ht C fp s2 H2 _ s6 σ6 H6 Δ6 M6 _ I6 dr6 er6 q6) fun b s7 ⟨H7, M7, I7, dr7, stp7, q7⟩ => ?_
   have keepD : ∀ {σz : L2.St} {Hz : Hp} {sz : Shared}, L2.Inv (Z2 X scope C N fp s2 H2) ([(D, { cls := .type "list", data := .seq its.toArray nn })] ++ K6 fp s5.heap) σz Hz sz →
     sz.heap.get? D = some { cls := .type "list", data := .seq its.toArray nn } ∧ Hz D = none ∧ tn (i + 1) sz.heap ∧ ∀ b ∈ fp, Hz b = none := fun {σz Hz sz} Iz => by
    have a := Iz.pin (D, { cls := .type "list", data := .seq its.toArray nn }) (by simp)
    refine ⟨a.1, a.2.1, T.keep _ _ _ st5 fun b hb o e => (Iz.pin (b, o) (List.mem_append_right _ (List.mem_append_right _ (Jr hb e)))).1, fun b hb => ?_⟩
    obtain ⟨o, e, _⟩ := T.obj _ _ st5 b hb
    exact (Iz.pin (b, o) (List.mem_append_right _ (List.mem_append_right _ (Jr hb e)))).2.1
   cases b with
   | false =>
    have q7' : W (i + 1) acc M7 := by simpa using q7
    obtain ⟨a1, a2, a3, a4⟩ := keepD I7
    have st17 : Step M' H5 M7 H7 := stp6.trans stp7
    exact ⟨ds.length - (i + 1), by omega, i + 1, acc, vs, its, nn, H7, M7, reloc I7 a1 a2 (fun v z => nomatch z), a3, a4, dr7, stp'.trans st17, rv, rd.step st17, q7', hlt, by omega, rfl⟩
   | true =>
    have q7' : te Δ6 M7 fun y M4 => onD y fun e => W (i + 1) (acc ++ [e]) M4 := by simpa using q7
    obtain ⟨te', pe', qe'⟩ := he C fp s2 H2
    refine thn (pe' _ s7 σ6 H7 (fun v H8 => ∃ e M8, ZX X.K M8 H8 ∧ Step M7 H7 M8 H8 ∧ Dt X.K M8 H8 v e ∧ W (i + 1) (acc ++ [e]) M8) I7 (qe' σ6 H7 Δ6 M7 _ _ dr7 (er6.step stp7) q7' fun v H8 x8 M8 a b c d => by
     replace d := QY d
     obtain ⟨e, rfl, w8⟩ := d
     exact ⟨e, M8, a, b, c, w8⟩)) fun y s8 ⟨v, H8, I8, r8, e, M8, dr8, stp8, dv8, w8⟩ => ?_
    obtain ⟨a1, a2, a3, a4⟩ := keepD I8
    have st18 : Step M' H5 M8 H8 := stp6.trans (stp7.trans stp8)
    have lv := rv.length
    have ld := rd.length
    refine call_meets PySem.F.slot_list_append ⟨_, a1, rfl⟩ PySem.F.entry_list_append (PySem.F.args_list_append_2 _ _) (PySem.list_append D its.toArray nn y (by rw [List.size_toArray]; omega)) ⟨a1, ?_⟩
    have q := PySem.IsL.update a1 (·.push y)
    have I8' : L2.Inv (Z2 X scope C N fp s2 H2) [] σ6 H8 s8 := I8.YS fun p hp => nomatch hp
    have I9 := I8'.turned (it := D) (h' := s8.heap.update D (Obj.mapSeq (·.push y))) (t' := s8.toks) (fun b o hb hu => (Heap.get?_update_other s8.heap (Obj.mapSeq (·.push y)) (Ne.symm hb)).trans hu) a2 hDC (.inr hDs)
     (fun x c e z => absurd (z ▸ (cellD x c e).1) (Nat.not_lt.mpr hDs)) (fun p hp => by have z : p ∈ ([] : List (Addr × Obj)) ++ [] := hp; simp at z)
    have ea : (its.toArray.push y) = (its ++ [y]).toArray := by simp
    rw [ea] at q
    refine ⟨ds.length - (i + 1), by omega, i + 1, acc ++ [e], vs ++ [v], its ++ [y], _, H8, M8, reloc I9 q a2 (fun v z => nomatch z), T.keep _ _ _ a3 (fun b hb o e => (Heap.get?_update_other s8.heap (Obj.mapSeq (·.push y)) (Ne.symm (fD b hb).1)).trans e), a4, dr8, stp'.trans st18,
     rv.append (.cons r8 .nil), (rd.step st18).append (.cons dv8 .nil), w8, hlt, by rw [List.length_append, List.length_singleton]; omega, rfl⟩
  ·have hie : i = ds.length := by omega
   refine thn (T.done (Z2 X scope C N fp s2 H2) rfl rfl rfl hc i _ s' (QR ix σ) H' (fun _ _ => False) IY fok ti (ystop (by omega))) fun r s4 ⟨hr, I4⟩ => ?_
   subst hr
   obtain ⟨m4, hm4, _⟩ := I4.loc
   have pD := I4.pin (D, { cls := .type "list", data := .seq its.toArray nn }) (by simp)
   have hCn : H' C = none := I4.free
   have hDn : H' D = none := pD.2.1
   have hok4 : HOk X.prog X.w (upd H' D (.lst vs)) s4.heap := fun b u e => by
    by_cases hb : b = D
    ·subst hb
     rw [JK] at e
     cases e
     exact ⟨by have := rv.length; have := rd.length; omega, its, nn, rv, pD.1⟩
    ·rw [ZL hb] at e
     refine (I4.hok b u e).Rg (fun c v hc' q => q) (fun c q => ?_) fun c xs q => ?_
     ·rw [ZL (ZC q pD.2.1)]; exact q
     ·rw [ZL (ZC q pD.2.1)]; exact q
   have bu : Un (frs X.stack) fp H2 H' s2.heap s4.heap := I4.base
   have un4 : Un (frs X.stack) fp H2 (upd H' D (.lst vs)) s2.heap s4.heap := by
    have nD : ∀ b o, s2.heap.get? b = some o → b ≠ D ∧ b ≠ C := fun b o e => ⟨fun z => absurd (z ▸ Heap.lt_size e) (Nat.not_lt.mpr hDs), fun z => absurd (z ▸ Heap.lt_size e) (Nat.not_lt.mpr hCs)⟩
    refine ⟨fun b o e n hb hx => bu.keep b o e n hb hx, fun b o e n hb hx => bu.slot b o e n hb hx, fun b o e n hx => by rw [ZL (nD b o e).1]; exact bu.free b o e n hx, fun b o e hx => bu.there b o e hx, fun b xs e => ?_, fun b o xs e => ?_, fun b ps e => ?_⟩
    ·have q := bu.tups b xs e
     rw [ZL (ZC q pD.2.1)]; exact q
    ·have q := bu.frzs b o xs e
     rw [ZL (ZC q pD.2.1)]; exact q
    ·obtain ⟨mo, q⟩ := bu.tbls b ps e
     exact ⟨mo, by rw [ZL (ZC q pD.2.1)]; exact q⟩
   have os4 : s4.os = s2.os := I4.os
   have IX : L2.Inv X pins σ (upd H' D (.lst vs)) s4 := I2.SK (s' := s4) os4 un4 hok4 I4.bare fun b hb => ⟨(f2 b hb).2.2.2.1, (f2 b hb).2.1, (f2 b hb).2.2.2.2.1, (f2 b hb).2.2.2.2.2⟩
   subst hie
   exact hfin s4 C D H' M' vs acc IX hDn dr' (stp.trans stp') rd (wd acc M' wi') ⟨m4, hm4⟩ (I2.S3 hCs (by rw [ZL (Ne.symm hDC)]; exact hCn))
 have hst₁ : tn 0 h₁ := T.keep _ _ _ st2 fun b _ o e => old b o e
 exact codeAny_compStart_list (loop _ rfl) (T.self _ 0 _ _ _ hst₁ (loop _ rfl))
theorem Zc4 {h h' : Heap} {C : Addr} {m : Str → Option Value} (n : h.Ns C m) (k : ∀ o, h.get? C = some o → h'.get? C = some o) : h'.Ns C m := by
 obtain ⟨o, es, ep, ho, r⟩ := n
 exact ⟨o, es, ep, k o ho, r⟩
theorem gone {pins : List (Addr × Obj)} {σ : L2.St} {H : Hp} {s : Shared} {C : Addr} {h' : Heap} (I : L2.Inv X pins σ H s) (f : UQ X pins H C) (hsb : Heap.SameBut C s.heap h') : L2.Inv X pins σ H { s with heap := h' } :=
 I.turned (t' := s.toks) (fun b o hb e => hsb.extBut b o hb e) f.1 f.2.1 f.2.2.2.1 f.2.2.2.2.1 f.2.2.2.2.2
theorem Pu {ow : Bool} {Φ : DK} {Q : VK} {M M' : Mp} {H H' : Hp} {D : Addr} {vs : List V} {acc : List PyData} (dr' : ZX X.K M' H') (st : Step M H M' H') (rd : Dts X.K M' H' vs acc) (hDn : H' D = none) (fin : CH ow Φ acc M') (k : Rch X.K M H Φ Q) : Q (.ref D) (upd H' D (.lst vs)) := by
 cases ow with
 | true =>
  have fin' : ∀ p, M' p = none → Φ (.own p) (Z8 M' p (.lst acc)) := by simpa [CH] using fin
  exact k _ _ (.own D) _ (dr'.Xl (Step.Xg hDn) rd) (st.trans (Step.Xg hDn)) rfl (fin' D (dr'.tracked hDn))
 | false =>
  have fin' : Φ (.dat (.list acc)) M' := by simpa [CH] using fin
  exact k.dat (dr'.new hDn) (st.trans (Step.new hDn)) (Dt.Vr dr' hDn rd) fin'
theorem QV (ow : Bool) {elt tg iter : Expr} {ifs : List Expr} {scope : Scope} {pos : Pos} {src : Yu} {N : List Str} {ix : List (Option Nat)} {g : DTG} {tc : DTT} {te : DTE} (ok : V6 X scope N ix) (hi : DI X tg iter src)
  (hg : ∀ C ex s H, DG (Z2 X scope C N ex s H) tg g) (ht : ∀ C ex s H, DTs (Z2 X scope C N ex s H) ifs tc) (he : ∀ C ex s H, DE (Z2 X scope C N ex s H) elt te) (hc : X.calm = true)
  (hs : autoParam (∀ x, foldedSetIterable iter X.env x = pure x) zz2._auto_1) : DE X (.ListComp elt [⟨tg, iter, ifs, 0⟩] scope pos) (LV ow src ix g tc te) := by
 refine ⟨fun σ H Q => ∀ pins s, L2.Inv X pins σ H s → wpAny (model X.prog X.w) X.A (eval (.ListComp elt [⟨tg, iter, ifs, 0⟩] scope pos) X.env) (EP X pins σ Q) X.xe s, fun pins s σ H Q I h => h pins s I, fun σ H Δ M Φ Q dr er h k pins s I => ?_⟩
 rw [eval_ListComp]
 refine UZ (ψ := CH ow Φ) ok hi hg ht he hc hs dr er h I fun s4 C D H' M' vs acc IX hDn dr' st rd fin hm f => ?_
 obtain ⟨m, hm⟩ := hm
 exact ⟨m, hm, fun h' hsb => ⟨.ref D, _, gone IX f hsb, rfl, Pu dr' st rd hDn fin k⟩⟩
theorem Bm (i : Nat) (ow : Bool) {x : Str} {pos' spos : Pos} (hN : X.N.Nodup) {elt tg iter : Expr} {ifs : List Expr} {scope : Scope} {pos : Pos} {src : Yu} {N : List Str} {ix : List (Option Nat)} {g : DTG} {tc : DTT} {te : DTE} (ok : V6 X scope N ix) (hi : DI X tg iter src)
  (hg : ∀ C ex s H, DG (Z2 X scope C N ex s H) tg g) (ht : ∀ C ex s H, DTs (Z2 X scope C N ex s H) ifs tc) (he : ∀ C ex s H, DE (Z2 X scope C N ex s H) elt te) (hc : X.calm = true)
  (hs : autoParam (∀ x, foldedSetIterable iter X.env x = pure x) zz2._auto_1) (hin : autoParam (X.N[i]? = some x) zz3._auto_1) (hx : autoParam (Loc X.env.scope x) zz8._auto_1)
  (hsw : autoParam (swapsWith (.ListComp elt [⟨tg, iter, ifs, 0⟩] scope pos) (some (.Name x pos')) spos.line X.env = pure true) zz3._auto_1)
  (hf : autoParam (X.fn x = true ∨ X.env.scope.names.lookup x = some .local) zz0._auto_1) :
  DS X (.Assign [.Name x pos'] (.ListComp elt [⟨tg, iter, ifs, 0⟩] scope pos) spos) (Zdd (LV ow src ix g tc te) (Kr i)) := by
 refine ⟨fun E σ H => ∀ pins s, L2.Inv X pins σ H s → wpAny (model X.prog X.w) X.A (exec (.Assign [.Name x pos'] (.ListComp elt [⟨tg, iter, ifs, 0⟩] scope pos) spos) X.env) (SP X pins E) X.xe s, fun pins s σ H E I h => h pins s I, fun σ H Δ M D E dr er h k pins s I => ?_⟩
 rw [exec_Assign_Name_used _ _ _ _ hsw]
 refine wpAny_bind (wpAny_standAt (wpAny_bind ?_))
 show wpAny _ _ (do let _ ← comprehension (.ListComp elt [⟨tg, iter, ifs, 0⟩] scope pos) scope X.env _ (newList []) false (eval iter X.env) (some (assign (.Name x pos') X.env))) _ _ s
 refine wpAny_bind (wpAny_mono (UZ (QQ := fun _ s' => SP X pins E .next s') (use := some (assign (.Name x pos') X.env)) (ψ := CH ow fun y M1 => D.nx (Δ.set i (some y)) M1) ok hi hg ht he hc hs dr er h I fun s4 C DD H' M' vs acc IX hDn dr' st rd fin hm f => ?_)
  (fun _ s' hq => wpAny_pure (wpAny_pure hq)) fun _ _ e => e)
 obtain ⟨m, hm⟩ := hm
 have hm0 := hm
 obtain ⟨oC, es, ep, hoC, hr1, hr2⟩ := hm0
 have IP : L2.Inv X (pins ++ [(C, oC)]) σ (upd H' DD (.lst vs)) s4 := IX.YS fun p hp => by
  rcases List.mem_append.mp hp with hp | hp
  ·exact IX.pin p (List.mem_append_right _ hp)
  ·rw [List.mem_singleton.mp hp]
   exact ⟨hoC, f.1, f.2.1, f.2.2.1, fun v z => nomatch (hr1.symm.trans z)⟩
 have nxt : ∀ Q' : L2.St → Hp → Prop, (Q' (σ.set i (some (.ref DD))) (upd H' DD (.lst vs))) → wpAny (model X.prog X.w) X.A (assign (.Name x pos') X.env (.ref DD)) (fun _ s' => ∃ σ' H', L2.Inv X (pins ++ [(C, oC)]) σ' H' s' ∧ Q' σ' H') X.xe s4 := fun Q' hq =>
  LC (pos := pos') hN hin hx hf _ s4 σ _ (.ref DD) (.ref DD) Q' IP rfl hq
 have kq : E.nx (σ.set i (some (.ref DD))) (upd H' DD (.lst vs)) := by
  cases ow with
  | true =>
   have fin' : ∀ p, M' p = none → D.nx (Δ.set i (some (.own p))) (Z8 M' p (.lst acc)) := by simpa [CH] using fin
   have st2 : Step M H (Z8 M' DD (.lst acc)) (upd H' DD (.lst vs)) := st.trans (Step.Xg hDn)
   exact k.nx _ _ _ _ (dr'.Xl (Step.Xg hDn) rd) st2 ((er.step st2).set (v := .ref DD) (x := .own DD) rfl) (fin' DD (dr'.tracked hDn))
  | false =>
   have fin' : D.nx (Δ.set i (some (.dat (.list acc)))) M' := by simpa [CH] using fin
   have st2 : Step M H M' (upd H' DD (.lst vs)) := st.trans (Step.new hDn)
   exact k.nx _ _ _ _ (dr'.new hDn) st2 ((er.step st2).set (v := .ref DD) (x := .dat (.list acc)) (Dt.Vr dr' hDn rd)) fin'
 show wpAny _ _ (assign (.Name x pos') X.env (.ref DD)) _ _ s4
 refine thn (nxt (fun σ' H' => σ' = σ.set i (some (.ref DD)) ∧ E.nx σ' H') ⟨rfl, kq⟩) fun _ s5 ⟨σ5, H5, I5, _, q5⟩ => ?_
 have p5 := I5.pin (C, oC) (by simp)
 refine ⟨m, Zc4 hm fun o ho => ?_, fun h' hsb => ⟨σ5, H5, ?_, q5⟩⟩
 ·rw [hoC] at ho
  cases ho
  exact p5.1
 ·have I6 : L2.Inv X pins σ5 H5 s5 := I5.YS fun p hp => I5.pin p (List.mem_append_right _ (List.mem_append_left _ hp))
  exact gone I6 ⟨p5.2.1, f.2⟩ hsb
end
end DL
namespace DL
open PySem PySem.Spec PyProof.Rows L2
section
variable {X : Cx}
def J4 (xs : List DV) (M : Mp) (ns : List Int) : Prop := xs = [.dat (.list (ns.map PyData.int))] ∨ ∃ l, xs = [.own l] ∧ M l = some (.lst (ns.map PyData.int))
theorem J4.sq {M : Mp} {H : Hp} {vs : List V} {xs : List DV} {ns : List Int} (h : J4 xs M ns) (r : ZX X.K M H) (rv : YA X.K M H vs xs) : ∃ p, vs = [.ref p] ∧ SqL X.K H p (ns.map V.int) := by
 rcases h with rfl | ⟨l, rfl, hm⟩
 ·obtain ⟨v, rfl, h1⟩ := Paired.one rv
  obtain ⟨p, ys, rfl, g1, g2⟩ := Q2.lst h1
  rw [YW g2] at g1
  exact ⟨p, rfl, g1.sq⟩
 ·obtain ⟨v, rfl, h1⟩ := Paired.one rv
  cases (show v = .ref l from h1)
  obtain ⟨ws, g1, g2⟩ := r.ls l _ hm
  rw [YW g2] at g1
  exact ⟨l, rfl, SqL.of g1⟩
theorem Gf : V1 X (.builtin "sorted") (fun xs H Q => ∃ (p : Addr) (ns : List Int), xs = [.ref p] ∧ SqL X.K H p (ns.map V.int) ∧ ns.length < 64 ∧ ∀ ns' : List Int, ns'.Perm ns → ns'.Pairwise (· ≤ ·) → ∀ l, H l = none → Q (.ref l) (upd H l (.lst (ns'.map V.int)))) := by
 intro pins s σ H xs us Q I r h
 obtain ⟨p, ns, rfl, hq, h64, q⟩ := h
 obtain ⟨u, rfl, rx⟩ := vals1 r
 cases rx
 obtain ⟨its, rv, pl, hz⟩ := I.list hq
 have hi : IntsAre its ns := intsAre_of rv
 have hlen : its.length < 64 := by have := rv.length; rw [List.length_map] at this; omega
 refine sorted_ints pl.isList hi hlen fun out ns' a1 a2 a3 => ?_
 obtain ⟨e, he⟩ := sortedAll_at s.heap its out
 have hn : H (s.heap.objs.size + 1) = none := I.hok.fresh (Nat.le_succ _)
 refine ⟨.ref (s.heap.objs.size + 1), _, I.laid (t' := s.toks) (a := s.heap.objs.size + 1) (o := .lst (ns'.map V.int)) (fun _ _ => sortedAll_old) (Nat.le_succ _) ?_, rfl, q ns' a2 a3 _ hn⟩
 refine ⟨?_, out.toList, e, YL a1, he⟩
 rw [List.length_map, a2.length_eq, sizeLine_eq]
 omega
def Hg : D1 := fun xs M Φ => ∃ ns : List Int, J4 xs M ns ∧ ns.length < 64 ∧ ∀ ns' : List Int, ns'.Perm ns → ns'.Pairwise (· ≤ ·) → Φ (.dat (.list (ns'.map PyData.int))) M
theorem Eb : Yo X (.builtin "sorted") Hg := by
 refine ⟨_, Gf, fun vs H xs M Φ Q r rv h k => ?_⟩
 obtain ⟨ns, hx, h64, q⟩ := h
 obtain ⟨p, rfl, hs⟩ := hx.sq r rv
 exact ⟨p, ns, rfl, hs, h64, fun ns' a b l hl => k.dat (r.new hl) (Step.new hl) (Dt.Vr r hl (Dts.ints ns')) (q ns' a b)⟩
theorem EY (hc : X.calm = true) : V1 X (.builtin "min") (fun xs H Q => ∃ (p : Addr) (ns : List Int), xs = [.ref p] ∧ SqL X.K H p (ns.map V.int) ∧ 0 < ns.length ∧ ∀ m ∈ ns, (∀ a ∈ ns, m ≤ a) → Q (.int m) H) := by
 intro pins s σ H xs us Q I r h
 obtain ⟨p, ns, rfl, hq, h0, q⟩ := h
 obtain ⟨u, rfl, rx⟩ := vals1 r
 cases rx
 obtain ⟨its, rv, pl, hz⟩ := I.list hq
 have hi : IntsAre its ns := intsAre_of rv
 obtain ⟨xs, e⟩ := hi.allInts.items
 have hns : ns = xs.toList.map (·.1) := by rw [← hi.numsOf, ← nums_intItems, ← e]
 have hsz : 0 < xs.size := by
  have h3 := h0; rw [hns, List.length_map, Array.length_toList] at h3; exact h3
 have hl := pl.isList
 rw [e] at hl
 refine min_intList (I.ok.hd hc) hl hsz fun v h' tk hv hk => ?_
 obtain ⟨t, rfl⟩ := intItems_at hv
 obtain ⟨h1, h2⟩ := argBest_lt (numAt xs) (xs.size - 1)
 refine ⟨.int _, H, I.kept hk, ⟨t, rfl⟩, q _ ?_ fun a ha => ?_⟩
 ·rw [hns, numAt_eq]; exact getD_mem (by rw [List.length_map, Array.length_toList]; omega)
 ·rw [hns] at ha
  obtain ⟨j, hj, rfl⟩ := mem_getD ha
  rw [List.length_map, Array.length_toList] at hj
  rw [← numAt_eq]; exact h2 j (by omega)
theorem Lf (hc : X.calm = true) : V1 X (.builtin "max") (fun xs H Q => ∃ (p : Addr) (ns : List Int), xs = [.ref p] ∧ SqL X.K H p (ns.map V.int) ∧ 0 < ns.length ∧ ∀ m ∈ ns, (∀ a ∈ ns, a ≤ m) → Q (.int m) H) := by
 intro pins s σ H xs us Q I r h
 obtain ⟨p, ns, rfl, hq, h0, q⟩ := h
 obtain ⟨u, rfl, rx⟩ := vals1 r
 cases rx
 obtain ⟨its, rv, pl, hz⟩ := I.list hq
 have hi : IntsAre its ns := intsAre_of rv
 obtain ⟨xs, e⟩ := hi.allInts.items
 have hns : ns = xs.toList.map (·.1) := by rw [← hi.numsOf, ← nums_intItems, ← e]
 have hsz : 0 < xs.size := by
  have h3 := h0; rw [hns, List.length_map, Array.length_toList] at h3; exact h3
 have hl := pl.isList
 rw [e] at hl
 refine max_intList (I.ok.hd hc) hl hsz fun v h' tk hv hk => ?_
 obtain ⟨t, rfl⟩ := intItems_at hv
 obtain ⟨h1, h2⟩ := argBest_gt (numAt xs) (xs.size - 1)
 refine ⟨.int _, H, I.kept hk, ⟨t, rfl⟩, q _ ?_ fun a ha => ?_⟩
 ·rw [hns, numAt_eq]; exact getD_mem (by rw [List.length_map, Array.length_toList]; omega)
 ·rw [hns] at ha
  obtain ⟨j, hj, rfl⟩ := mem_getD ha
  rw [List.length_map, Array.length_toList] at hj
  rw [← numAt_eq]; exact h2 j (by omega)
def Pn : D1 := fun xs M Φ => ∃ ns : List Int, J4 xs M ns ∧ 0 < ns.length ∧ ∀ m ∈ ns, (∀ a ∈ ns, m ≤ a) → Φ (.dat (.int m)) M
def Pk : D1 := fun xs M Φ => ∃ ns : List Int, J4 xs M ns ∧ 0 < ns.length ∧ ∀ m ∈ ns, (∀ a ∈ ns, a ≤ m) → Φ (.dat (.int m)) M
theorem Ke (hc : X.calm = true) : Yo X (.builtin "min") Pn := by
 refine ⟨_, EY hc, fun vs H xs M Φ Q r rv h k => ?_⟩
 obtain ⟨ns, hx, h0, q⟩ := h
 obtain ⟨p, rfl, hs⟩ := hx.sq r rv
 exact ⟨p, ns, rfl, hs, h0, fun m a b => k.dat r Step.refl (Dt.int m) (q m a b)⟩
theorem Be (hc : X.calm = true) : Yo X (.builtin "max") Pk := by
 refine ⟨_, Lf hc, fun vs H xs M Φ Q r rv h k => ?_⟩
 obtain ⟨ns, hx, h0, q⟩ := h
 obtain ⟨p, rfl, hs⟩ := hx.sq r rv
 exact ⟨p, ns, rfl, hs, h0, fun m a b => k.dat r Step.refl (Dt.int m) (q m a b)⟩
theorem Paired.three {α β : Type} {F : α → β → Prop} {l : List α} {b c d : β} (h : Paired F l [b, c, d]) : ∃ a a' a'', l = [a, a', a''] ∧ F a b ∧ F a' c ∧ F a'' d := by
 cases h with
 | cons h1 h2 =>
  obtain ⟨a, a', rfl, h3, h4⟩ := Paired.two h2
  exact ⟨_, a, a', rfl, h1, h3, h4⟩
def δ3I (g : Int → Int → Int → Int) : D1 := fun xs M Φ => on3 xs fun x y z => onI x fun i => onI y fun j => onI z fun l => Φ (.dat (.int (g i j l))) M
theorem HL (hc : X.calm = true) : V1 X (.builtin "max") (fun xs H Q => ∃ i j l, xs = [.int i, .int j, .int l] ∧ Q (.int (max i (max j l))) H) := by
 intro pins s σ H xs us Q I r h
 obtain ⟨i, j, l, rfl, q⟩ := h
 obtain ⟨u, hu⟩ : ∃ u, us = u := ⟨us, rfl⟩
 cases r with
 | cons r1 r2 =>
  obtain ⟨u2, u3, rfl, r3, r4⟩ := vals2 r2
  obtain ⟨t1, rfl⟩ := r1
  obtain ⟨t2, rfl⟩ := r3
  obtain ⟨t3, rfl⟩ := r4
  refine max_three_ints (I.ok.hd hc) fun h' tk k => ⟨.int (max i (max j l)), H, I.kept k, ?_, q⟩
  by_cases c1 : j > i
  ·rw [if_pos c1]
   by_cases c2 : l > j
   ·rw [if_pos c2]; exact ⟨t3, by rw [show max i (max j l) = l by omega]⟩
   ·rw [if_neg c2]; exact ⟨t2, by rw [show max i (max j l) = j by omega]⟩
  ·rw [if_neg c1]
   by_cases c2 : l > i
   ·rw [if_pos c2]; exact ⟨t3, by rw [show max i (max j l) = l by omega]⟩
   ·rw [if_neg c2]; exact ⟨t1, by rw [show max i (max j l) = i by omega]⟩
theorem Tz (hc : X.calm = true) : Yo X (.builtin "max") (δ3I fun i j l => max i (max j l)) := by
 refine ⟨_, HL hc, fun vs H xs M Φ Q r rv h k => ?_⟩
 replace h := Z3 h
 obtain ⟨x, y, z, rfl, h⟩ := h
 replace h := ZO h
 obtain ⟨i, rfl, h⟩ := h
 replace h := ZO h
 obtain ⟨j, rfl, h⟩ := h
 replace h := ZO h
 obtain ⟨l, rfl, q⟩ := h
 obtain ⟨v, u, w', rfl, h1, h2, h3⟩ := Paired.three rv
 exact ⟨i, j, l, by rw [Q2.int h1, Q2.int h2, Q2.int h3], k.dat r Step.refl (Dt.int _) q⟩
def E4 : D1 := fun xs M Φ => on1 xs fun x => onQ x M fun ds => Φ (.dat (.tuple ds)) M
theorem QF : Yo X (.type "tuple") E4 := by
 refine ⟨_, UL, fun vs H xs M Φ Q r rv h k => ?_⟩
 replace h := Qn h
 obtain ⟨x, rfl, h⟩ := h
 replace h := Gb h
 obtain ⟨ds, hx, q⟩ := h
 have hx' : x = .dat (.list ds) ∨ x = .dat (.tuple ds) ∨ ∃ l, x = .own l ∧ M l = some (.lst ds) := by
  rcases hx with a | a | a
  ·exact .inr (.inl a)
  ·exact .inl a
  ·exact .inr (.inr a)
 rcases hx' with rfl | rfl | ⟨l, rfl, hm⟩
 ·obtain ⟨v, rfl, h1⟩ := Paired.one rv
  obtain ⟨p, ys, rfl, g1, g2⟩ := Q2.lst h1
  exact ⟨p, ys, rfl, .inl ⟨g1.sq, fun l hl => k.dat (r.new hl) (Step.new hl) (Dt.XQ r hl g2) q⟩⟩
 ·obtain ⟨v, rfl, h1⟩ := Paired.one rv
  obtain ⟨p, ys, rfl, g1, g2⟩ := Q2.tup h1
  exact ⟨p, ys, rfl, .inr ⟨g1.sq, k.dat r Step.refl (Dt.tup g1 g2) q⟩⟩
 ·obtain ⟨v, rfl, h1⟩ := Paired.one rv
  cases (show v = .ref l from h1)
  obtain ⟨ws, g1, g2⟩ := r.ls l _ hm
  exact ⟨l, ws, rfl, .inl ⟨SqL.of g1, fun l hl => k.dat (r.new hl) (Step.new hl) (Dt.XQ r hl g2) q⟩⟩
def onW (x : DV) (P : List PyData → Prop) : Prop := match x with | .dat (.tuple ds) => P ds | .dat (.list ds) => P ds | _ => False
theorem Zav {x : DV} {P : List PyData → Prop} (h : onW x P) : ∃ ds, (x = .dat (.list ds) ∨ x = .dat (.tuple ds)) ∧ P ds := by
 unfold onW at h
 split at h
 ·exact ⟨_, .inr rfl, h⟩
 ·exact ⟨_, .inl rfl, h⟩
 ·exact h.elim
noncomputable def okIn (d : PyData) (ds : List PyData) : Bool := d.canLay0 && PyData.canLayAll0 ds && Nat.ble d.depth 64
theorem TK {d : PyData} {ds : List PyData} (h : okIn d ds = true) : d.canLay0 = true ∧ PyData.canLayAll0 ds = true ∧ d.depth ≤ 64 := by
 unfold okIn at h
 simp only [Bool.and_eq_true] at h
 exact ⟨h.1.1, h.1.2, Nat.le_of_ble_eq_true h.2⟩
def δIn : D2 := fun x y M Φ => onD x fun d => onW y fun ds => okIn d ds = true ∧ Φ (.dat (.bool (ds.any fun e => PyData.eqv e d))) M
def LU (to te : DTE) : DTE := fun Δ M Φ => to Δ M fun x M1 => onO x fun l => XE (M1 l) fun _ => te Δ M1 fun y M2 => onO y fun b => XE (M2 l) fun ds => XE (M2 b) fun es => b ≠ l ∧ ds.length + es.length ≤ sizeLine ∧ Φ (.dat .none) (Ku (Z8 M2 l (.lst (ds ++ es))) b)
theorem GX {o e : Expr} {to te : DTE} {apos cpos : Pos} (ho : DE X o to) (he : DE X e te) (hbase : autoParam (attributeBase o "extend" X.env (eval o X.env) = eval o X.env) zz3._auto_1)
  (hfew : ((backTo cpos (starEach [e] X.env)).all (fun x => !x.1) && (backToKw cpos (keywordEach [] X.env)).all (fun x => x.1.isSome)
   && decide ([e].length + ([] : List Keyword).length + (if ([] : List Keyword).isEmpty then 0 else 1) < 30)) = true := by rfl)
  (hline : autoParam ((apos.endLine == cpos.line) = true) zz3._auto_1) (hs : autoParam (starEach [e] X.env = (false, eval e X.env) :: starEach [] X.env) zz3._auto_1) (hplain : autoParam ((backTo cpos (starEach [] X.env)).any (·.1) = false) zz3._auto_1) :
  DE X (.Call (.Attribute o "extend" apos) [e] [] cpos) (LU to te) := by
 obtain ⟨t1, p1, q1⟩ := ho
 obtain ⟨t2, p2, q2⟩ := he
 refine ⟨_, S8 PySem.F.plainAttrs_list PySem.F.slot_list_extend PySem.F.type_list_extend ET p1 (UI p2 Ct hs) hbase hfew hline hs hplain, fun σ H Δ M Φ Q r e h k => ?_⟩
 refine q1 σ H Δ M _ _ r e h fun v H1 x M1 r1 st rv hx => ?_
 replace hx := Jf hx
 obtain ⟨l, rfl, hx⟩ := hx
 replace hx := Vi hx
 obtain ⟨oo, ho, hx⟩ := hx
 cases (show v = .ref l from rv)
 have ty : tyV X.K "list" (.ref l) H1 := by
  obtain ⟨vs, g1, _⟩ := r1.ls l oo ho
  exact .inl ⟨rfl, vs, SqL.of g1⟩
 refine ⟨ty, q2 σ H1 Δ M1 _ _ r1 (e.step st) hx fun w H2 y M2 r2 st2 rw2 hy => ?_⟩
 replace hy := Jf hy
 obtain ⟨b, rfl, hy⟩ := hy
 replace hy := Vi hy
 obtain ⟨ds, hm, hy⟩ := hy
 replace hy := Vi hy
 obtain ⟨es, hb, hne, hz, hy⟩ := hy
 cases (show w = .ref b from rw2)
 obtain ⟨vs, g1, g2⟩ := r2.ls l ds hm
 obtain ⟨ws, g3, g4⟩ := r2.ls b es hb
 have st3 : Step M2 H2 (Z8 M2 l (.lst (ds ++ es))) (upd H2 l (.lst (vs ++ ws))) := Step.De hm
 refine ⟨l, b, vs, ws, rfl, rfl, g1, g3, by rw [g2.length, g4.length]; exact hz, ?_⟩
 exact k.dat (r2.Xl st3 (g2.append g4)).frz (st.trans (st2.trans (st3.trans Step.frz))) Dt.non hy
def Zfi (te : DTE) (tl th : DTO) : DTE := fun Δ M Φ => te Δ M fun x M1 => tl Δ M1 fun l M2 => th Δ M2 fun u M3 => onL x fun ds => Φ (.dat (.list (cutD ds l u))) M3
theorem U6 {e : Expr} {te : DTE} {lo hi : Option Expr} {tl th : DTO} {p2 pos : Pos} (he : DE X e te) (hl : DO X lo tl) (hu : DO X hi th) : DE X (.Subscript e (.Slice lo hi none p2) pos) (Zfi te tl th) := by
 obtain ⟨t1, p1, q1⟩ := he
 obtain ⟨t2, p2, q2⟩ := hl
 obtain ⟨t3, p3, q3⟩ := hu
 refine ⟨_, UM Ru p1 p2 p3, fun σ H Δ M Φ Q r e h k => ?_⟩
 refine q1 σ H Δ M _ _ r e h fun v H1 x M1 r1 st rv hx => ?_
 refine q2 σ H1 Δ M1 _ _ r1 (e.step st) hx fun l H2 M2 r2 st2 hl => ?_
 refine q3 σ H2 Δ M2 _ _ r2 (e.step (st.trans st2)) hl fun u H3 M3 r3 st3 hu => ?_
 replace hu := K8 hu
 obtain ⟨ds, rfl, hu⟩ := hu
 obtain ⟨a, xs, rfl, h1, h2⟩ := (rv.step (st2.trans st3)).lst
 refine ⟨a, xs, rfl, h1.sq, fun p hp => ?_⟩
 exact k.dat (r3.new hp) ((st.trans (st2.trans st3)).trans (Step.new hp)) (Dt.Vr r3 hp (h2.cut l u)) hu
noncomputable def XF (scope sc : Scope) : List (Str × NameKind) := scope.names.map fun (n, k) => if (k == .free && sc.kind == .function && sc.names.lookup n == some .cell) then (n, .cell) else (n, k)
noncomputable def Fb (sc : Scope) (XN : List Str) (scope : Scope) (N : List Str) (ix : List (Option Nat)) (j : Nat) : Bool :=
 match N[j]?, ix[j]? with
 | some x, some (some i) => decide (XN[i]? = some x) && (decide ((x, NameKind.free) ∈ scope.names) && decide ((XF scope sc).lookup x = some .cell))
 | _, _ => true
theorem ZH {sc : Scope} {XN : List Str} {scope : Scope} {N : List Str} {ix : List (Option Nat)} (hsc : X.env.scope = sc) (hN : X.N = XN)
  (h : scope.kind = .function ∧ (∀ y ∈ scope.names, y.2 ≠ .cell) ∧ (∀ y ∈ scope.names, y.2 = .local → scope.names.lookup y.1 = some .local) ∧ (∀ y ∈ scope.names, y.2 = .free → sc.names.lookup y.1 = some .cell) ∧ N.length = ix.length ∧
   ∀ j ∈ List.range N.length, Fb sc XN scope N ix j = true) : V6 X scope N ix := by
 obtain ⟨h1, h2, h3, h4, h5, h6⟩ := h
 subst hsc hN
 refine ⟨h1, h2, h3, h4, h5, fun j x i hx hi => ?_⟩
 have hj : j < N.length := (List.getElem?_eq_some_iff.mp hx).1
 have q := h6 j (List.mem_range.mpr hj)
 unfold Fb at q
 rw [hx, hi] at q
 simp only [Bool.and_eq_true, decide_eq_true_eq] at q
 exact ⟨q.1, q.2.1, q.2.2⟩
end
end DL
namespace DL
open PySem PySem.Spec PyProof.Rows L2
theorem LJ {M : Mp} {p b : Addr} {o o2 o3 : OO} (h : Z8 M p o b = none) : Ku (Z8 (Z8 (Z8 M p o) b o2) p o3) b = Z8 M p o3 := by
 have hne : b ≠ p := fun e => by rw [e, ZU] at h; cases h
 rw [Qy hne] at h
 funext c
 unfold Ku Z8
 by_cases h1 : c = b
 ·rw [if_pos h1, if_neg (by rw [h1]; exact hne), h1, h]
 ·rw [if_neg h1]
  by_cases h2 : c = p
  ·rw [if_pos h2, if_pos h2]
  ·rw [if_neg h2, if_neg h1, if_neg h2, if_neg h2]
theorem fresh_ne {M : Mp} {p b : Addr} {o : OO} (h : Z8 M p o b = none) : b ≠ p := fun e => by rw [e, ZU] at h; cases h
theorem take_snoc {α β : Type} {l : List α} {i : Nat} {a : α} (f : α → β) (h : l[i]? = some a) : (l.take i).map f ++ [f a] = (l.take (i + 1)).map f := by
 rw [List.take_add_one, h, List.map_append]
 rfl
theorem LR {α β : Type} {l : List α} {i : Nat} {a : α} (f : α → List β) (h : l[i]? = some a) : (l.take i).flatMap f ++ f a = (l.take (i + 1)).flatMap f := by
 rw [List.take_add_one, h, List.flatMap_append]
 simp
theorem Z1 {α β : Type} {l : List α} {f : α → β} {i : Nat} {b : β} (h : (l.map f)[i]? = some b) : ∃ a, l[i]? = some a ∧ f a = b := by
 rw [List.getElem?_map] at h
 cases q : l[i]? with
 | none => rw [q] at h; cases h
 | some a => rw [q] at h; exact ⟨a, rfl, by simpa using h⟩
theorem XJ {α β : Type} (f : α → List β) (n : Nat) : ∀ l : List α, (∀ a ∈ l, (f a).length ≤ n) → (l.flatMap f).length ≤ l.length * n
 | [], _ => by simp
 | a :: l, h => by
  have h1 := h a List.mem_cons_self
  have h2 := XJ f n l fun b hb => h b (List.mem_cons_of_mem _ hb)
  rw [List.flatMap_cons, List.length_append, List.length_cons, Nat.succ_mul]
  omega
def gc (Φ : DK) : DK := fun x M => ∃ ps : List Addr, Φ x (ps.foldl Ku M)
theorem Zb9 {K : PySem.W.Frag} {M : Mp} {H : Hp} {Φ : DK} {Q : VK} (k : Rch K M H Φ Q) {v : V} {H' : Hp} {x : DV} : ∀ (ps : List Addr) (M' : Mp), ZX K M' H' → Step M H M' H' → Q2 K M' H' v x → Φ x (ps.foldl Ku M') → Q v H'
 | [], M', r, st, rv, f => k v H' x M' r st rv f
 | p :: ps, M', r, st, rv, f => Zb9 k ps (Ku M' p) r.frz (st.trans Step.frz) (rv.step Step.frz) f
theorem P8 {K : PySem.W.Frag} {M : Mp} {H : Hp} {Φ : DK} {Q : VK} (k : Rch K M H Φ Q) : Rch K M H (gc Φ) Q := fun _ _ _ M' r st rv ⟨ps, f⟩ => Zb9 k ps M' r st rv f
theorem okG {P : Program} {w : World} {K : PySem.W.Frag} {mg : Str → Option Value} {base : Heap} {x qual : Str} {st : Stmt} {f : Addr} {fd : FuncData} {N ps : List Str} {k : Nat} {S : DSp} (F : Fun K x qual st f fd) (Sc : Zr N ps (Ze st)) (len : ∀ xs M Φ, S xs M Φ → xs.length = ps.length)
  (hbody : ∀ (cdv : Value) (A : Around) (outer : List Env) (s : Shared) (H : Hp) (E : XK), Xw k (A.deeper (envOfC qual (Ze st) s.heap.objs.size f cdv)) →
   ∃ τ, DSs (PM CX0 P w K mg base N qual (Ze st) f cdv A outer s H E).nox (Zq st) τ ∧ ∀ xs M Φ, S xs M Φ → τ { nx := fun _ M' => gc Φ (.dat .none) M', rt := gc Φ } (Xk N xs) M) : ZD P w K mg base CX0 (k + 1) f fd ps (lift K S) := by
 refine F.ok Sc (fun vs H Q E h => ?_) fun cdv A outer s H vs Q E hr h => ?_
 ·obtain ⟨xs, M, Φ, _, rv, hs, _⟩ := h
  rw [Paired.length rv]
  exact len xs M Φ hs
 ·obtain ⟨xs, M, Φ, r, rv, hs, kk⟩ := h
  obtain ⟨τ, ⟨t, p, q⟩, hτ⟩ := hbody cdv A outer s H E hr
  refine ⟨t, p, q (start N vs) H (Xk N xs) M _ _ r (Jn.start rv) (hτ xs M Φ hs) ⟨fun σ' H' Δ' M' r' st' e' hn => ?_, P8 kk, fun _ _ _ _ _ _ _ h => h.elim, fun _ _ _ _ _ _ _ h => h.elim⟩⟩
  exact (P8 kk).dat r' st' Dt.non hn
theorem ZaT {Φ : DK} {x : DV} {M : Mp} {p : Addr} {o : OO} (hp : M p = none) (h : Φ x M) : gc Φ x (Z8 M p o) := ⟨[p], by
 show Φ x (Ku (Z8 M p o) p)
 rw [XY hp]; exact h⟩
theorem ZeO {Φ : DK} {x : DV} {M : Mp} (h : Φ x M) : gc Φ x M := ⟨[], h⟩
theorem CU {n k : Nat} (h : n < 2 ^ k) (hk : 0 < k) : n.log2 < k := by
 by_cases h0 : n = 0
 ·subst h0; simpa using hk
 ·exact (Nat.log2_lt h0).mpr h
def Mid (i : Int) : Prop := -(10 ^ 70) ≤ i ∧ i ≤ 10 ^ 70
theorem Mid.show {i : Int} (h : Mid i) : (PyData.int i).showable = true := by
 have h1 : i.natAbs.log2 < 240 := CU (by unfold Mid at h; omega) (by decide)
 simp only [PyData.showable, decide_eq_true_eq]
 omega
end DL
namespace DL
open PySem PySem.Spec PyProof.Rows L2
section
variable {X : Cx}
def Zbs : D1 := fun xs M Φ => ∃ ns : List Int, J4 xs M ns ∧ Φ (.dat (.int ns.sum)) M
theorem G4 : ∀ {bs : List Bool} {us : List Value}, Vals (bs.map V.bl) us → ∀ (i : Nat) (v : Value), us[i]? = some v → ∃ b, bs[i]? = some b ∧ v = .bool b
 | [], _, r, i, v, e => by rw [List.map_nil] at r; cases r; simp at e
 | b :: bs, _, r, i, v, e => by
  rw [List.map_cons] at r
  cases r with
  | cons r1 r2 =>
   cases i with
   | zero =>
    simp at e
    subst e
    exact ⟨b, rfl, r1⟩
   | succ i => simpa using G4 r2 i v (by simpa using e)
theorem ED (bs : List Bool) : ((List.range bs.length).any fun i => (bs[i]?).getD false) = bs.any id := by
 rw [Bool.eq_iff_iff, List.any_eq_true, List.any_eq_true]
 constructor
 ·rintro ⟨i, hi, e⟩
  have hi' := List.mem_range.mp hi
  rw [List.getElem?_eq_getElem hi', Option.getD_some] at e
  exact ⟨_, List.getElem_mem hi', e⟩
 ·rintro ⟨b, hb, e⟩
  obtain ⟨i, hi, rfl⟩ := List.getElem_of_mem hb
  exact ⟨i, List.mem_range.mpr hi, by rw [List.getElem?_eq_getElem hi, Option.getD_some]; exact e⟩
theorem FP {s : Shared} {h' : Heap} {o : Obj} (hk : ∀ b x, b ∉ [s.heap.objs.size] → (s.heap.push o).get? b = some x → h'.get? b = some x) : ∀ b x, s.heap.get? b = some x → h'.get? b = some x :=
 fun b x e => hk b x (fun hm => absurd (Heap.lt_size e) (by rw [List.mem_singleton.mp hm]; exact Nat.lt_irrefl _)) (Heap.get?_push_of_some _ e)
theorem LX (hc : X.calm = true) : V1 X (.builtin "any") (fun xs H Q => ∃ (p : Addr) (bs : List Bool), xs = [.ref p] ∧ SqL X.K H p (bs.map V.bl) ∧ Q (.bl (bs.any id)) H) := by
 intro pins s σ H xs us Q I r h
 obtain ⟨p, bs, rfl, hq, q⟩ := h
 obtain ⟨u, rfl, rx⟩ := vals1 r
 cases rx
 obtain ⟨its, rv, pl, hz⟩ := I.list hq
 have hl := pl.isList
 have hlt : p < s.heap.objs.size := by obtain ⟨_, e, _⟩ := hl; exact Heap.lt_size e
 refine call_any_walk (wpAny_pyIter_list hl ?_)
 refine ⟨s.heap.objs.size, [s.heap.objs.size, p], [s.heap.objs.size], its.toArray.size, _, _, fun i => (bs[i]?).getD false, rfl, Walks.list (A := X.A.in1) (I.ok.hd hc) _ p (Nat.ne_of_lt hlt) its.toArray,
  ⟨⟨_, Heap.get?_push_size _ rfl, rfl, rfl⟩, hl.push _⟩, fun i v s' Q' E' hP hQ => ?_, fun h' tk hk => ?_⟩
 ·obtain ⟨b, e, rfl⟩ := G4 rv i v (by simpa using hP)
  simp only [e, Option.getD_some] at hQ
  exact wpAny_truthy_bool hQ
 ·have e : ((List.range its.toArray.size).any fun i => (bs[i]?).getD false) = bs.any id := by
   have hln := rv.length
   rw [List.length_map] at hln
   rw [List.size_toArray, ← hln]; exact ED bs
  rw [e]
  exact ⟨.bl _, H, I.kept (FP hk), rfl, q⟩
theorem XU {K : PySem.W.Frag} {M : Mp} {H : Hp} : ∀ {vs : List V} {bs : List Bool}, Dts K M H vs (bs.map PyData.bool) → vs = bs.map V.bl
 | vs, [], h => by
  rw [List.map_nil] at h
  cases h
  rfl
 | vs, n :: ns, h => by
  rw [List.map_cons] at h
  cases h with
  | cons h1 h2 =>
   cases h1
   rw [XU h2, List.map_cons]
def Zag : D1 := fun xs M Φ => ∃ bs : List Bool, xs = [.dat (.list (bs.map PyData.bool))] ∧ Φ (.dat (.bool (bs.all id))) M
def Pp : D1 := fun xs M Φ => ∃ bs : List Bool, xs = [.dat (.list (bs.map PyData.bool))] ∧ Φ (.dat (.bool (bs.any id))) M
theorem ZaA (hc : X.calm = true) : Yo X (.builtin "any") Pp := by
 refine ⟨_, LX hc, fun vs H xs M Φ Q r rv h k => ?_⟩
 obtain ⟨bs, rfl, q⟩ := h
 obtain ⟨v, rfl, h1⟩ := Paired.one rv
 obtain ⟨p, ys, rfl, g1, g2⟩ := Q2.lst h1
 rw [XU g2] at g1
 exact ⟨p, bs, rfl, g1.sq, k.dat r Step.refl (Dt.bl _) q⟩
def ZaY : D1 := fun xs M Φ => on1 xs fun x => onB x fun b => Φ (.dat (.int (if b = true then 1 else 0))) M
def ZgC (i j : Nat) (ta : DTA) : DTS := fun D Δ M => ta Δ M fun xs M1 => on2 xs fun x y => D.nx ((Δ.set i (some x)).set j (some y)) M1
def Mc (x : DV) (M : Mp) (ds : List PyData) : Prop := x = .dat (.list ds) ∨ ∃ l, x = .own l ∧ M l = some (.lst ds)
theorem Mc.sq {x : DV} {M : Mp} {H : Hp} {v : V} {ds : List PyData} (h : Mc x M ds) (r : ZX X.K M H) (rv : Q2 X.K M H v x) : ∃ p ys, v = .ref p ∧ SqL X.K H p ys ∧ Dts X.K M H ys ds := by
 rcases h with rfl | ⟨l, rfl, hm⟩
 ·obtain ⟨p, ys, rfl, g1, g2⟩ := Q2.lst rv
  exact ⟨p, ys, rfl, g1.sq, g2⟩
 ·cases (show v = .ref l from rv)
  obtain ⟨ws, g1, g2⟩ := r.ls l _ hm
  exact ⟨l, ws, rfl, SqL.of g1, g2⟩
def PU : D2 := fun x y M Φ => onK x M fun ds => onK y M fun es => ds.length + es.length ≤ sizeLine ∧ Φ (.dat (.list (ds ++ es))) M
theorem Kk : OpD X (binaryOp .Add) PU := by
 refine ⟨_, Dg, fun v u H x y M Φ Q r rv ru h k => ?_⟩
 replace h := Ks h
 obtain ⟨ds, hx, h⟩ := h
 replace h := Ks h
 obtain ⟨es, hy, hz, q⟩ := h
 replace hx : Mc x M ds := hx
 replace hy : Mc y M es := hy
 obtain ⟨a, xs, rfl, h1, h2⟩ := hx.sq r rv
 obtain ⟨b, ys, rfl, h3, h4⟩ := hy.sq r ru
 exact ⟨a, b, xs, ys, rfl, rfl, h1, h3, by rw [h2.length, h4.length]; exact hz, fun p hp => k.dat (r.new hp) (Step.new hp) (Dt.Vr r hp (h2.append h4)) q⟩
def ZfT (te : DTE) (tl th : DTO) : DTE := fun Δ M Φ => te Δ M fun x M1 => tl Δ M1 fun l M2 => th Δ M2 fun u M3 => onK x M3 fun ds => Φ (.dat (.list (cutD ds l u))) M3
noncomputable def Zg0 (lo : Int) (n : Nat) : List V := (List.range n).map fun (i : Nat) => V.int (lo + (i : Int))
def RG (ta : DTA) : DTE := fun Δ M Φ => ta Δ M fun xs M1 => on2 xs fun x y => onI x fun i => onI y fun j => (InR i ∧ InR j) ∧ (j - i).toNat ≤ 16777216 ∧ Φ (.dat (.list (K4 i (j - i).toNat))) M1
def Zf6 (i : Nat) (te : DTE) (f : Int → Int → Int) : DTS := fun D Δ M => onV Δ[i]? fun z => onI z fun a => te Δ M fun x M1 => onI x fun b => D.nx (Δ.set i (some (.dat (.int (f a b))))) M1
end
end DL
namespace DL
open PySem PySem.Spec PyProof.Rows L2
def T9 (h : Heap) (v : Value) (q : Int × Int) : Prop := ∃ a o n t u, v = .ref a ∧ h.get? a = some o ∧ o.cls = .type "tuple" ∧ o.data = .seq #[.int q.1 t, .int q.2 u] n
theorem T9.keep {h h' : Heap} {v : Value} {q : Int × Int} (p : T9 h v q) (k : ∀ b o, h.get? b = some o → h'.get? b = some o) : T9 h' v q := by
 obtain ⟨a, o, n, t, u, e, g, c, d⟩ := p
 exact ⟨a, o, n, t, u, e, k _ _ g, c, d⟩
noncomputable def ltP (p q : Int × Int) : Bool := if p.1 = q.1 then decide (p.2 < q.2) else decide (p.1 < q.1)
theorem get_none {h : Heap} {b : Addr} (hb : h.objs.size ≤ b) : h.get? b = none := by
 cases q : h.get? b with
 | none => rfl
 | some o => exact absurd (Heap.lt_size q) (Nat.not_lt.mpr hb)
theorem FG (p : Int × Int) : ltP p p = false := by unfold ltP; rw [if_pos rfl]; exact decide_eq_false (by omega)
theorem Zar {p q r : Int × Int} (h1 : ltP r q = false) (h2 : ltP p q = true) : ltP r p = false := by
 unfold ltP at *
 split at h1 <;> split at h2 <;> split <;> simp only [decide_eq_false_iff_not, decide_eq_true_eq] at * <;> omega
theorem K3 (f : Nat → Int × Int) : ∀ k, argBest (fun i j => ltP (f i) (f j)) k ≤ k ∧ ∀ j, j ≤ k → ltP (f j) (f (argBest (fun i j => ltP (f i) (f j)) k)) = false
 | 0 => ⟨Nat.le_refl _, fun j hj => by rw [show j = 0 by omega]; exact FG _⟩
 | k + 1 => by
  have ih := K3 f k
  unfold argBest
  split
  ·rename_i c
   refine ⟨Nat.le_refl _, fun j hj => ?_⟩
   by_cases e : j = k + 1
   ·rw [e]; exact FG _
   ·exact Zar (ih.2 j (by omega)) c
  ·rename_i c
   refine ⟨by omega, fun j hj => ?_⟩
   by_cases e : j = k + 1
   ·rw [e]; exact Bool.of_not_eq_true c
   ·exact ih.2 j (by omega)
theorem sub_tt : isSubtype (.type "tuple") (.type "tuple") = pure true := by rw [isSubtype_type]; kernel_rfl
section
variable {prog : Program} {w : World} {A : Around} {E : Value → Shared → Prop} {s : Shared}
theorem PL {M : Model} {a : Addr} {o : Obj} {items n} {Q : Array Value → Shared → Prop} (ho : s.heap.get? a = some o) (hd : o.data = .seq items n) (h : Q items s) : wpAny M A (Builtin.Tuple.tupleItemsOf (.ref a)) Q E s := by
 unfold Builtin.Tuple.tupleItemsOf
 exact wpAny_bind (wpAny_seqItems ho hd (wpAny_pure h))
theorem WB {p q : Int × Int} {a b : Addr} {oa ob : Obj} {na nb : Nat} {t1 t2 u1 u2 : Tok} {P : Fin → Shared → Prop} (ha : s.heap.get? a = some oa) (da : oa.data = .seq #[.int p.1 t1, .int p.2 t2] na)
  (hb : s.heap.get? b = some ob) (cb : ob.cls = .type "tuple") (db : ob.data = .seq #[.int q.1 u1, .int q.2 u2] nb) (h : P (.done (.ret (.bool (ltP p q)))) s) :
  wpAny (model prog w) A (Builtin.«tuple.__lt__» ⟨[.ref a, .ref b], []⟩) P E s := by
 have hT : s.TypeIs (.ref b) "tuple" := ⟨ob, hb, cb⟩
 show wpAny _ _ (isInstance (.ref b) (.type "tuple") >>= _) _ _ s
 refine wpAny_bind (wpAny_isInstance hT sub_tt ?_)
 simp only [Bool.not_true, Bool.false_eq_true, if_false]
 refine wpAny_bind (PL ha da (wpAny_bind (PL hb db (wpAny_bind ?_))))
 show wpAny _ _ (forIn [(Value.int p.1 t1, Value.int q.1 u1), (Value.int p.2 t2, Value.int q.2 u2)] _ _) _ _ s
 rw [List.forIn_cons]
 refine wpAny_bind (wpAny_bind (wpAny_eqBool_int ?_))
 unfold ltP at h
 by_cases e1 : p.1 = q.1
 ·rw [if_pos e1] at h
  rw [show (p.1 == q.1) = true from beq_iff_eq.mpr e1]
  simp only [Bool.not_true, Bool.false_eq_true, if_false]
  refine wpAny_pure ?_
  show wpAny _ _ (forIn [(Value.int p.2 t2, Value.int q.2 u2)] (none, ()) _) _ _ s
  rw [List.forIn_cons]
  refine wpAny_bind (wpAny_bind (wpAny_eqBool_int ?_))
  by_cases e2 : p.2 = q.2
  ·rw [show (p.2 == q.2) = true from beq_iff_eq.mpr e2]
   simp only [Bool.not_true, Bool.false_eq_true, if_false]
   refine wpAny_pure ?_
   show wpAny _ _ (forIn [] (none, ()) _) _ _ s
   rw [List.forIn_nil]
   refine wpAny_pure ?_
   rw [decide_eq_false (by omega)] at h
   exact wpAny_pure h
  ·rw [show (p.2 == q.2) = false from beq_eq_false_iff_ne.mpr e2]
   simp only [Bool.not_false, if_true]
   exact wpAny_bind (wpAny_rule (wpAny_bind (wpAny_lt_int (wpAny_bind (wpAny_pure (wpAny_pure (wpAny_pure (wpAny_pure h))))))))
 ·rw [if_neg e1] at h
  rw [show (p.1 == q.1) = false from beq_eq_false_iff_ne.mpr e1]
  simp only [Bool.not_false, if_true]
  exact wpAny_bind (wpAny_rule (wpAny_bind (wpAny_lt_int (wpAny_bind (wpAny_pure (wpAny_pure (wpAny_pure (wpAny_pure h))))))))
theorem MA {p q : Int × Int} {v u : Value} {Q : Value → Shared → Prop} (hu : A.units < cLine) (hv : T9 s.heap v p) (hw : T9 s.heap u q) (h : Q (.bool (ltP p q)) s) : wpAny (model prog w) A (richCompare .Lt v u) Q E s := by
 obtain ⟨a, oa, na, t1, t2, rfl, ha, ca, da⟩ := hv
 obtain ⟨b, ob, nb, u1, u2, rfl, hb, cb, db⟩ := hw
 have hTa : s.TypeIs (.ref a) "tuple" := ⟨oa, ha, ca⟩
 have hTb : s.TypeIs (.ref b) "tuple" := ⟨ob, hb, cb⟩
 exact wpAny_richCompare_same_room (op := .Lt) hTa hTb F.slot_tuple_lt (wpAny_call_entry F.slot_tuple_lt hTa F.entry_tuple_lt (WB ha da hb cb db ⟨_, rfl, (fun z => nomatch z), h⟩) (F.args_tuple_lt_2 _ _)) hu
end
section
variable {prog : Program} {w : World} {A : Around} {R : Result → Shared → Prop} {I : Addr} {fp wr : List Addr} {n : Nat} {P : Nat → Value → Prop} {St : Nat → Heap → Prop}
def Zbl (prog : Program) (w : World) (A : Around) (h0 : Heap) (P : Nat → Value → Prop) (bt : Nat → Nat → Bool) : Prop :=
 ∀ i j x y (s : Shared) (Q : Value → Shared → Prop) (E : Value → Shared → Prop), (∀ b o, h0.get? b = some o → s.heap.get? b = some o) → P i x → P j y → Q (.bool (bt i j)) s → wpAny (model prog w) A (richCompare .Lt x y) Q E s
theorem VL : (toString "min" ++ toString ".loop" : String) = "min.loop" := by decide
theorem BH {kw : List (Str × Value)} {h0 : Heap} {bt : Nat → Nat → Bool} (C : Zbl prog w A.in1 h0 P bt) (W : Walks prog w A.in1 I fp wr n P St) {S : Addr} (hSf : S ∉ fp) (nS : h0.get? S = none) (nw : ∀ b ∈ wr, h0.get? b = none) :
  ∀ (k j : Nat) (s : Shared) (best : Value) (c : Nat), n - (j + 1) = k → j + 1 ≤ n → (∀ b o, h0.get? b = some o → s.heap.get? b = some o) → St (j + 1) s.heap → P (argBest bt j) best → s.heap.get? S = some { cls := .type "list", dict := none, data := .seq #[best, best] c, slots := #[] } →
   (∀ v h' tk, P (argBest bt (n - 1)) v → (∀ b o, h0.get? b = some o → h'.get? b = some o) → R (.ok (.ret v)) { s with heap := h', toks := tk }) →
   codeAny (model prog w) A (.builtin "min.loop" ⟨[.ref I, .none, .ref S], kw⟩) R s := by
 have hSw : S ∉ wr := fun z => hSf (W.sub _ z)
 have old : ∀ {b : Addr} {o : Obj}, h0.get? b = some o → b ∉ wr ∧ b ≠ S := fun {b o} e => ⟨fun z => (by rw [nw b z] at e; cases e), fun z => (by rw [z, nS] at e; cases e)⟩
 intro k
 induction k with
 | zero =>
  intro j s best c hk hj h0s hst hPb hS hR
  obtain rfl : j + 1 = n := by omega
  refine codeAny_builtin F.entry_min_loop ?_
  rw [Around.under_plainId F.plain_min_loop _]
  show wpAny _ A.in1 (seqItems? (.ref S) >>= _) _ _ s
  refine wpAny_bind (wpAny_seqItems hS rfl ?_)
  show wpAny _ A.in1 (tryCatch (pyNext (.ref I)) _ >>= _) _ _ s
  refine wpAny_bind (wpAny_tryCatch (W.done s _ _ hst fun h' tk keep => ?_))
  have hS' := keep S _ hSw hS
  show wpAny _ A.in1 (updateSeq S (fun _ => #[]) >>= _) _ _ _
  refine wpAny_bind (wpAny_updateSeq hS' rfl (wpAny_bind (wpAny_letGo (wpAny_pure ?_))))
  exact hR best _ tk hPb fun b o e => (Heap.get?_update_other _ _ (Ne.symm (old e).2)).trans (keep b o (old e).1 (h0s b o e))
 | succ k ih =>
  intro j s best c hk hj h0s hst hPb hS hR
  have hlt : j + 1 < n := by omega
  refine codeAny_builtin F.entry_min_loop ?_
  rw [Around.under_plainId F.plain_min_loop _]
  show wpAny _ A.in1 (seqItems? (.ref S) >>= _) _ _ s
  refine wpAny_bind (wpAny_seqItems hS rfl ?_)
  show wpAny _ A.in1 (tryCatch (pyNext (.ref I)) _ >>= _) _ _ s
  refine wpAny_bind (wpAny_tryCatch (W.item (j + 1) s _ _ hlt hst fun v h' tk hP hst' keep => ?_))
  have hS' := keep S _ hSw hS
  have h0' : ∀ b o, h0.get? b = some o → h'.get? b = some o := fun b o e => keep b o (old e).1 (h0s b o e)
  show wpAny _ A.in1 (tryCatch (holding [v, v] (richCompare .Lt v best >>= _)) _ >>= _) _ _ _
  refine wpAny_bind (wpAny_tryCatch (wpAny_holding (wpAny_bind (C (j + 1) (argBest bt j) v best _ _ _ h0' hP hPb ?_))))
  refine wpAny_bind (wpAny_holding (wpAny_truthy_bool (wpAny_bind (wpAny_letGo (wpAny_pure ?_)))))
  cases q : bt (j + 1) (argBest bt j) with
  | true =>
   simp only [if_true]
   refine wpAny_bind (wpAny_updateSeq hS' rfl (wpAny_bind (wpAny_letGo ?_)))
   rw [VL]
   refine wpAny_pure ⟨plainId_quiet F.plain_min_loop _, ih (j + 1) _ v _ (by omega) hlt (fun b o e => (Heap.get?_update_other _ _ (Ne.symm (old e).2)).trans (h0' b o e)) (W.frame _ _ _ hst' fun b m o e => ?_) (by simp only [argBest, q, if_true]; exact hP) (Heap.get?_update_self _ hS' rfl) fun v' h'' tk'' hP' hk'' => hR v' h'' tk'' hP' hk''⟩
   exact (Heap.get?_update_other _ _ (fun z : S = b => hSf (by rw [z]; exact m))).trans e
  | false =>
   simp only [Bool.false_eq_true, if_false]
   refine wpAny_bind (wpAny_letGo ?_)
   rw [VL]
   exact wpAny_pure ⟨plainId_quiet F.plain_min_loop _, ih (j + 1) _ best c (by omega) hlt h0' hst' (by simp only [argBest, q, Bool.false_eq_true, if_false]; exact hPb) hS' fun v' h'' tk'' hP' hk'' => hR v' h'' tk'' hP' hk''⟩
end
section
variable {prog : Program} {w : World} {A : Around} {E : Value → Shared → Prop} {s : Shared}
theorem DY {x : Value} {Q : Value → Shared → Prop} {h0 : Heap}
  (h : wpAny (model prog w) A.in1 (pyIter x) (fun it s2 => ∃ I fp wr n P St bt, it = .ref I ∧ Walks prog w A.in1 I fp wr n P St ∧ St 0 s2.heap ∧ (∀ b ∈ fp, b < s2.heap.objs.size) ∧ (∀ b ∈ wr, h0.get? b = none) ∧ (∀ b o, h0.get? b = some o → s2.heap.get? b = some o) ∧ h0.get? s2.heap.objs.size = none ∧ 0 < n ∧ Zbl prog w A.in1 h0 P bt ∧
   ∀ v h' tk, P (argBest bt (n - 1)) v → (∀ b o, h0.get? b = some o → h'.get? b = some o) → Q v { s2 with heap := h', toks := tk }) E s) : wpAny (model prog w) A (call (.builtin "min") [x]) Q E s := by
 refine call_function_tree F.kind_min F.plain_min F.entry_min (F.args_min1 _) ?_
 show wpAny _ A.in1 (Builtin.Builtins.bindParams "min" ["key", "default"] 0 ⟨[], []⟩ >>= _) _ _ s
 refine wpAny_bind (wpAny_of_eq (show Builtin.Builtins.bindParams "min" ["key", "default"] 0 ⟨[], []⟩ = pure [none, none] from rfl) (wpAny_bind (wpAny_pure ?_)))
 refine wpAny_bind (wpAny_mono h (fun it s2 h2 => ?_) fun _ _ z => z)
 obtain ⟨I, fp, wr, n, P, St, bt, rfl, W, hst, hfp, nw, h0s, nS, hn, C, hQ⟩ := h2
 refine wpAny_bind (wpAny_newObj_type ?_)
 have hSf : s2.heap.objs.size ∉ fp := fun z => Nat.lt_irrefl _ (hfp _ z)
 have hSw : s2.heap.objs.size ∉ wr := fun z => hSf (W.sub _ z)
 have old : ∀ {b : Addr} {o : Obj}, h0.get? b = some o → b ∉ wr ∧ b ≠ s2.heap.objs.size := fun {b o} e => ⟨fun z => (by rw [nw b z] at e; cases e), fun z => (by rw [z, nS] at e; cases e)⟩
 rw [VL]
 refine wpAny_pure ⟨plainId_quiet F.plain_min_loop _, ?_⟩
 refine codeAny_builtin F.entry_min_loop ?_
 rw [Around.under_plainId F.plain_min_loop _]
 show wpAny _ A.in1 (seqItems? (.ref s2.heap.objs.size) >>= _) _ _ _
 refine wpAny_bind (wpAny_seqItems (Heap.get?_push_size _ rfl) rfl ?_)
 show wpAny _ A.in1 (tryCatch (pyNext (.ref I)) _ >>= _) _ _ _
 refine wpAny_bind (wpAny_tryCatch (W.item 0 _ _ _ hn (W.frame _ _ _ hst fun b _ o e => Heap.get?_push_of_some _ e) fun v h' tk hP hst' keep => ?_))
 have hS' := keep s2.heap.objs.size _ hSw (Heap.get?_push_size _ rfl)
 show wpAny _ A.in1 (updateSeq s2.heap.objs.size (fun _ => #[v, v]) >>= _) _ _ _
 refine wpAny_bind (wpAny_updateSeq hS' rfl ?_)
 rw [VL]
 refine wpAny_pure ⟨plainId_quiet F.plain_min_loop _, BH C W hSf nS nw _ 0 _ v _ rfl hn (fun b o e => (Heap.get?_update_other _ _ (Ne.symm (old e).2)).trans (keep b o (old e).1 (Heap.get?_push_of_some _ (h0s b o e)))) (W.frame _ _ _ hst' fun b m o e => ?_) hP (Heap.get?_update_self _ hS' rfl) fun v' h'' tk'' hP' hk'' => hQ v' h'' tk'' hP' hk''⟩
 exact (Heap.get?_update_other _ _ (fun z : s2.heap.objs.size = b => hSf (by rw [z]; exact m))).trans e
theorem Ce {l : Addr} {its : Array Value} {qs : List (Int × Int)} {Q : Value → Shared → Prop} (hh : A.handled = none) (hu : A.in1.units < cLine) (hl : s.heap.IsList l its) (hz : its.size = qs.length) (hne : 0 < qs.length)
  (hq : ∀ i v, its[i]? = some v → T9 s.heap v (qs.getD i (0, 0)))
  (h : ∀ i v h' tk, its[i]? = some v → i < qs.length → (∀ j, j < qs.length → ltP (qs.getD j (0, 0)) (qs.getD i (0, 0)) = false) → (∀ b o, s.heap.get? b = some o → h'.get? b = some o) → Q v { s with heap := h', toks := tk }) :
  wpAny (model prog w) A (call (.builtin "min") [.ref l]) Q E s := by
 have hlt : l < s.heap.objs.size := by obtain ⟨_, e, _⟩ := hl; exact Heap.lt_size e
 refine DY (h0 := s.heap) (wpAny_pyIter_list hl ?_)
 refine ⟨s.heap.objs.size, [s.heap.objs.size, l], [s.heap.objs.size], its.size, _, _, fun i j => ltP (qs.getD i (0, 0)) (qs.getD j (0, 0)), rfl, Walks.list (A := A.in1) hh _ l (Nat.ne_of_lt hlt) its, ⟨⟨_, Heap.get?_push_size _ rfl, rfl, rfl⟩, hl.push _⟩, fun b hb => ?_, fun b hb => ?_, fun b o e => Heap.get?_push_of_some _ e, ?_, by omega, fun i j x y s' Q' E' old hx hy hQ => ?_, fun v h' tk hP keep => ?_⟩
 ·show b < (s.heap.push _).objs.size
  rw [Heap.size_push]
  rcases List.mem_cons.mp hb with rfl | hb
  ·exact Nat.lt_succ_self _
  ·rw [List.mem_singleton.mp hb]
   exact Nat.lt_succ_of_lt hlt
 ·rw [List.mem_singleton.mp hb]
  exact get_none (Nat.le_refl _)
 ·show s.heap.get? (s.heap.push _).objs.size = none
  rw [Heap.size_push]
  exact get_none (Nat.le_succ _)
 ·exact MA hu ((hq i x hx).keep old) ((hq j y hy).keep old) hQ
 ·have b := K3 (fun i => qs.getD i (0, 0)) (its.size - 1)
  exact h _ v h' tk hP (by omega) (fun j hj => b.2 j (by omega)) keep
end
section
variable {X : Cx}
def Za3 (i j : Int) : Prop := 0 < j ∧ j.natAbs.log2 < 9000
theorem O7 : OpR X (binaryOp .FloorDiv) (rI Za3 fun i j => .int (i / j)) := opI fun i j _ _ _ _ _ hc q => by
 have h1 : (0 : Int) < j := hc.1
 exact floordiv_int (by omega) (by rw [Int.fdiv_eq_ediv_of_nonneg i (by omega)]; exact q) (.inl (PyProof.noPylong_of_log2 hc.2))
theorem Ov : OpD X (binaryOp .FloorDiv) (δI Za3 fun i j => .int (i / j)) := ZcR O7
theorem Vals.back {xs : List V} {us : List Value} {i : Nat} {u : Value} (r : Vals xs us) (e : us[i]? = some u) : ∃ x, xs[i]? = some x ∧ RelV x u := by
 cases q : xs[i]? with
 | none => rw [r.none_of q] at e; cases e
 | some x =>
  obtain ⟨u', e', h⟩ := r.get q
  rw [e] at e'
  cases e'
  exact ⟨x, rfl, h⟩
theorem L0 (hc : X.calm = true) (hu : X.A.in1.units < cLine) : V1 X (.builtin "min") (fun xs H Q => ∃ (p : Addr) (vs : List V) (qs : List (Int × Int)), xs = [.ref p] ∧ SqL X.K H p vs ∧ vs.length = qs.length ∧ (∀ (i : Nat) (q : Int × Int), qs[i]? = some q → ∃ a : Addr, vs[i]? = some (V.ref a) ∧ SqT X.K H a [.int q.1, .int q.2]) ∧ 0 < qs.length ∧
  ∀ (i : Nat) (q : Int × Int) (v : V), qs[i]? = some q → vs[i]? = some v → (∀ r ∈ qs, ltP r q = false) → Q v H) := by
 intro pins s σ H xs us Q I r h
 obtain ⟨p, vs, qs, rfl, hq, hz, hp, h0, q⟩ := h
 obtain ⟨u, rfl, rx⟩ := vals1 r
 cases rx
 obtain ⟨its, rv, pl, _⟩ := I.list hq
 have hlen := rv.length
 have get : ∀ i, i < qs.length → qs[i]? = some (qs.getD i (0, 0)) := fun i hi => by rw [List.getElem?_eq_getElem hi, List.getD_eq_getElem?_getD, List.getElem?_eq_getElem hi]; rfl
 refine Ce (I.ok.hd hc) hu pl.isList (by rw [List.size_toArray, ← hlen]; exact hz) h0 (fun i v hv => ?_) fun i v h' tk hv hi hm hk => ?_
 ·have hv' : its[i]? = some v := by simpa using hv
  have hi : i < qs.length := by
   have := (List.getElem?_eq_some_iff.mp hv').1
   omega
  obtain ⟨a, e, sq⟩ := hp i _ (get i hi)
  obtain ⟨w', e', rl⟩ := rv.get e
  rw [hv'] at e'
  cases e'
  cases (show v = .ref a from rl)
  obtain ⟨jts, rt, ⟨o, eo, co, n, d⟩, _⟩ := I.tuple sq
  obtain ⟨x1, x2, rfl, ⟨t1, rfl⟩, ⟨t2, rfl⟩⟩ := Vals.two rt
  exact ⟨a, o, n, t1, t2, rfl, eo, co, d⟩
 ·have hv' : its[i]? = some v := by simpa using hv
  obtain ⟨x, e, rl⟩ := Vals.back rv hv'
  refine ⟨x, H, I.kept hk, rl, q i _ x (get i hi) e fun r hr => ?_⟩
  obtain ⟨j, hj, rfl⟩ := List.getElem_of_mem hr
  have := hm j hj
  rwa [List.getD_eq_getElem?_getD, List.getElem?_eq_getElem hj] at this
noncomputable def prD (q : Int × Int) : PyData := .tuple [.int q.1, .int q.2]
def PX : D1 := fun xs M Φ => ∃ qs : List (Int × Int), xs = [.dat (.list (qs.map prD))] ∧ 0 < qs.length ∧ ∀ q ∈ qs, (∀ r ∈ qs, ltP r q = false) → Φ (.dat (prD q)) M
theorem Tf {k : Nat} (hr : Xw k X.A) (hc : X.calm = true) : Yo X (.builtin "min") PX := by
 refine ⟨_, L0 hc (by have := hr.un; show X.A.units + 1 < _; omega), fun vs H xs M Φ Q r rv h k => ?_⟩
 obtain ⟨qs, rfl, h0, q⟩ := h
 obtain ⟨v, rfl, h1⟩ := Paired.one rv
 obtain ⟨p, ys, rfl, g1, g2⟩ := Q2.lst h1
 refine ⟨p, ys, qs, rfl, g1.sq, by rw [g2.length, List.length_map], fun i q' e => ?_, h0, fun i q' v e ev hm => ?_⟩
 ·obtain ⟨v, ev, d⟩ := g2.get (i := i) (d := prD q') (by rw [List.getElem?_map, e]; rfl)
  cases d with
  | tup t1 t2 =>
   cases t2 with
   | cons a b =>
    cases a
    cases b with
    | cons a b =>
     cases a
     cases b
     exact ⟨_, ev, t1.sq⟩
 ·obtain ⟨v', ev', d⟩ := g2.get (i := i) (d := prD q') (by rw [List.getElem?_map, e]; rfl)
  rw [ev] at ev'
  cases ev'
  exact k.dat r Step.refl d (q q' (List.mem_of_getElem? e) hm)
end
end DL
namespace DL
open PySem PySem.Spec PyProof.Rows L2
noncomputable def Rq {α : Type} [DecidableEq α] (ks : List α) (k : α) : Bool := decide (k ∈ ks)
noncomputable def T8 {α : Type} [DecidableEq α] (ks : List α) (k : α) : List α := if k ∈ ks then ks else ks ++ [k]
section
variable {X : Cx}
def Th : DTE := fun _ M Φ => ∀ p, M p = none → Φ (.own p) (Z8 M p (.dct []))
noncomputable def kP (i j : Int) : List Key := [.inl i, .inl j]
def ZdT (td : DTE) (ta : DTA) (tv : DTE) : DTS := fun D Δ M => tv Δ M fun x M1 => td Δ M1 fun y M2 => ta Δ M2 fun zs M3 => onD x fun _ => onO y fun l => on2 zs fun p q => onI p fun i => onI q fun j => SD (M3 l) fun ks => ks.length < sizeLine ∧ D.nx Δ (Z8 M3 l (.dct (T8 ks (kP i j))))
def onP (x : DV) (P : Int → Int → Prop) : Prop := match x with | .dat (.tuple [.int i, .int j]) => P i j | _ => False
theorem Ys {x : DV} {P : Int → Int → Prop} (h : onP x P) : ∃ i j, x = .dat (.tuple [.int i, .int j]) ∧ P i j := by
 unfold onP at h
 split at h
 ·exact ⟨_, _, rfl, h⟩
 ·exact h.elim
def ZdM : D2 := fun x y M Φ => onP x fun i j => onO y fun l => SD (M l) fun ks => Φ (.dat (.bool (Rq ks (kP i j)))) M
end
theorem Df {α β : Type} {f g : α → Option β} : ∀ {l : List α}, (∀ k ∈ l, f k = g k) → l.filterMap f = l.filterMap g
 | [], _ => rfl
 | a :: l, h => by
  have h1 := h a List.mem_cons_self
  have h2 := Df (l := l) fun k hk => h k (List.mem_cons_of_mem _ hk)
  cases e : f a with
  | none => rw [List.filterMap_cons_none e, List.filterMap_cons_none (by rw [← h1]; exact e), h2]
  | some b => rw [List.filterMap_cons_some e, List.filterMap_cons_some (by rw [← h1]; exact e), h2]
section
variable {prog : Program} {w : World} {A : Around} {E : Value → Shared → Prop} {s : Shared}
end
section
variable {X : Cx}
def Zd1 (te ts : DTE) : DTE := fun Δ M Φ => te Δ M fun x M1 => ts Δ M1 fun y M2 => onT x fun ds => onI y fun i => i = -1 ∧ Φ (.dat (.tuple ds.reverse)) M2
theorem Dts.reverse {K : PySem.W.Frag} {M : Mp} {H : Hp} : ∀ {vs : List V} {ds : List PyData}, Dts K M H vs ds → Dts K M H vs.reverse ds.reverse
 | _, _, .nil => .nil
 | _, _, .cons h1 h2 => by
  rw [List.reverse_cons, List.reverse_cons]
  exact (Dts.reverse h2).append (.cons h1 .nil)
end
section
variable {prog : Program} {w : World} {A : Around} {E : Value → Shared → Prop} {s : Shared}
theorem Ea {t sl : Addr} {items : Array Value} {vl vu : Value} {lo hi : Option Int} {Q : Value → Shared → Prop} (ht : IsTup s.heap t items) (hs : s.heap.IsSliceOf sl vl vu .none) (pl : IsPart vl lo) (pu : IsPart vu hi)
  (hw : HT.sIx items.size 0 lo = 0 ∧ HT.sIx items.size items.size hi = items.size) (h : Q (.ref t) s) : wpAny (model prog w) A (getItem (.ref t) (.ref sl)) Q E s := by
 obtain ⟨os, hos, hcs, hds⟩ := id hs
 have hTs : s.TypeIs (.ref sl) "slice" := ⟨os, hos, hcs⟩
 unfold getItem
 try with_reducible refine wpAny_holding ?_
 first | refine wpAny_bind (wpAny_pure ?_) | skip
 refine wpAny_bind (wpAny_sequenceKey ht.typeIs (by decide) ?_)
 refine wpAny_bind (wpAny_callSpecial?_slot (name := Str.ofString "__getitem__") ht.typeIs PyProof.Rows.slot_tuple_getitem (wpAny_call_entry PyProof.Rows.slot_tuple_getitem ht.typeIs entry_tuple_getitem ?_ (args_tuple_getitem _ _)))
 show wpAny _ _ (Builtin.Tuple.tupleItemsOf (.ref t) >>= _) _ _ s
 refine wpAny_bind (tupleItemsOf_ ht (wpAny_bind (wpAny_typeOf hTs ?_)))
 rw [if_pos (by decide)]
 refine wpAny_bind (HT.Vl hs pl pu ?_)
 rw [hw.1, hw.2, Nat.sub_zero]
 show wpAny _ _ (if ((((0 : Nat) : Int) == 0) && ((1 : Int) == 1) && (items.size == items.size)) = true then _ else _) _ _ s
 rw [if_pos (by simp)]
 unfold Builtin.Tuple.tupleIsExact
 refine wpAny_bind (wpAny_bind (wpAny_typeOf ht.typeIs (wpAny_pure ?_)))
 rw [if_pos (by decide)]
 exact wpAny_bind (wpAny_rule (wpAny_pure ⟨_, rfl, wpAny_pure h⟩))
end
section
variable {X : Cx}
def ZdP (K : PySem.W.Frag) : V → Option Int → Option Int → Hp → VK → Prop := fun x lo hi H Q => ∃ a xs, x = .ref a ∧ SqT K H a xs ∧ (HT.sIx xs.length 0 lo = 0 ∧ HT.sIx xs.length xs.length hi = xs.length) ∧ Q (.ref a) H
theorem SS : SlR X (ZdP X.K) := by
 intro pins s σ H x v vl vu lo hi sl Q I rx hs pl pu h
 obtain ⟨a, xs, rfl, hx, hw, q⟩ := h
 cases (show v = .ref a from rx)
 obtain ⟨its, r, ht, hz⟩ := I.tuple hx
 have hlen : its.toArray.size = xs.length := by rw [List.size_toArray]; exact r.length.symm
 exact ⟨"tuple", _, PyProof.Rows.slot_tuple_getitem.lookup, ht.typeIs, Ea ht hs pl pu (by rw [hlen]; exact hw) ⟨.ref a, H, I, rfl, q⟩⟩
def ZaG (te : DTE) (tl th : DTO) : DTE := fun Δ M Φ => te Δ M fun x M1 => tl Δ M1 fun l M2 => th Δ M2 fun u M3 => onT x fun ds => Φ (.dat (.tuple (cutD ds l u))) M3
theorem We {e : Expr} {te : DTE} {lo hi : Option Expr} {tl th : DTO} {p2 pos : Pos} (he : DE X e te) (hl : DO X lo tl) (hu : DO X hi th) : DE X (.Subscript e (.Slice lo hi none p2) pos) (ZaG te tl th) := by
 obtain ⟨t1, p1, q1⟩ := he
 obtain ⟨t2, p2, q2⟩ := hl
 obtain ⟨t3, p3, q3⟩ := hu
 refine ⟨_, UM (Pg.or SS) p1 p2 p3, fun σ H Δ M Φ Q r e h k => ?_⟩
 refine q1 σ H Δ M _ _ r e h fun v H1 x M1 r1 st rv hx => ?_
 refine q2 σ H1 Δ M1 _ _ r1 (e.step st) hx fun l H2 M2 r2 st2 hl => ?_
 refine q3 σ H2 Δ M2 _ _ r2 (e.step (st.trans st2)) hl fun u H3 M3 r3 st3 hu => ?_
 replace hu := YE hu
 obtain ⟨ds, rfl, hu⟩ := hu
 obtain ⟨a, xs, rfl, h1, h2⟩ := (rv.step (st2.trans st3)).tup
 by_cases hw : HT.sIx xs.length 0 l = 0 ∧ HT.sIx xs.length xs.length u = xs.length
 ·refine .inr ⟨a, xs, rfl, h1.sq, hw, k.dat r3 (st.trans (st2.trans st3)) (Dt.tup h1 h2) ?_⟩
  have e : cutD ds l u = ds := by
   unfold cutD
   rw [← h2.length, hw.1, hw.2, List.drop_zero, Nat.sub_zero, h2.length, List.take_length]
  rw [e] at hu
  exact hu
 ·refine .inl ⟨a, xs, rfl, h1.sq, hw, fun p hp => ?_⟩
  exact k.dat (r3.new hp) ((st.trans (st2.trans st3)).trans (Step.new hp)) (Dt.XQ r3 hp (h2.cut l u)) hu
end
section
variable {X : Cx}
def ZdC (x : DV) (M : Mp) (Φ : DK) : Prop := match x with | .dat (.list ds) => Φ (.dat (.list ds)) M | .own l => XE (M l) fun ds => Φ (.dat (.list ds)) (Ku M l) | _ => False
def ZdH (t : DTE) : DTE := fun Δ M Φ => t Δ M fun x M1 => ZdC x M1 Φ
end
end DL
namespace DL
open PySem PySem.Spec PyProof.Rows L2
theorem Fy {X : Cx} {e : Expr} {τ τ' : DTE} (h : DE X e τ) (k : ∀ Δ M Φ, τ' Δ M Φ → τ Δ M Φ) : DE X e τ' := by
 obtain ⟨t, p, q⟩ := h
 exact ⟨t, p, fun σ H Δ M Φ Q a b c d => q σ H Δ M Φ Q a b (k _ _ _ c) d⟩
theorem RO {X : Cx} {s : Stmt} {τ τ' : DTS} (h : DS X s τ) (k : ∀ D Δ M, τ' D Δ M → τ D Δ M) : DS X s τ' := by
 obtain ⟨t, p, q⟩ := h
 exact ⟨t, p, fun σ H Δ M D E a b c d => q σ H Δ M D E a b (k _ _ _ c) d⟩
def Zea (src : Yu) : Yu := fun Δ M Ψ => ∃ Ψ', src Δ M Ψ' ∧ ∀ ds M1, Ψ' ds M1 → Ψ ds M1
theorem DI.mono {X : Cx} {tg iter : Expr} {src : Yu} (h : DI X tg iter src) : DI X tg iter (Zea src) := by
 obtain ⟨wi, p, q⟩ := h
 exact ⟨wi, p, fun σ H Δ M Ψ R dr er ⟨Ψ', h1, h2⟩ k => q σ H Δ M Ψ' R dr er h1 fun J H' M' ds a b c d => k J H' M' ds a b c (h2 _ _ d)⟩
def Q8 (g : DTG) (tc : DTT) (te : DTE) (Δc : DSt) (fin : List PyData → Mp → Prop) : List PyData → List PyData → Mp → Prop
 | [], acc, M => fin acc M
 | d :: ds, acc, M => g (.dat d) Δc M fun Δ2 M2 => tc Δ2 M2 fun b M3 => if b = true then te Δ2 M3 fun y M4 => onD y fun e => Q8 g tc te Δc fin ds (acc ++ [e]) M4 else Q8 g tc te Δc fin ds acc M3
theorem FU (g : DTG) (tc : DTT) (te : DTE) (Δc : DSt) (fin : List PyData → Mp → Prop) (acc : List PyData) (M : Mp) : Q8 g tc te Δc fin [] acc M = fin acc M := by rw [Q8]
theorem EZ (g : DTG) (tc : DTT) (te : DTE) (Δc : DSt) (fin : List PyData → Mp → Prop) (d : PyData) (ds acc : List PyData) (M : Mp) : Q8 g tc te Δc fin (d :: ds) acc M =
  g (.dat d) Δc M fun Δ2 M2 => tc Δ2 M2 fun b M3 => if b = true then te Δ2 M3 fun y M4 => onD y fun e => Q8 g tc te Δc fin ds (acc ++ [e]) M4 else Q8 g tc te Δc fin ds acc M3 := by rw [Q8]
theorem OY {g : DTG} {tc : DTT} {te : DTE} {Δc : DSt} {fin : List PyData → Mp → Prop} {ds : List PyData} {M : Mp} (h : Q8 g tc te Δc fin ds [] M) : ∃ J : Nat → List PyData → Mp → Prop, J 0 [] M ∧
 (∀ i d acc M', ds[i]? = some d → J i acc M' → g (.dat d) Δc M' fun Δ2 M2 => tc Δ2 M2 fun b M3 => if b = true then te Δ2 M3 fun y M4 => onD y fun e => J (i + 1) (acc ++ [e]) M4 else J (i + 1) acc M3) ∧
 ∀ acc M', J ds.length acc M' → fin acc M' := by
 refine ⟨fun i acc M' => Q8 g tc te Δc fin (ds.drop i) acc M', by simpa using h, fun i d acc M' e k => ?_, fun acc M' k => ?_⟩
 ·have ed : ds.drop i = d :: ds.drop (i + 1) := by
   obtain ⟨hi, e'⟩ := List.getElem?_eq_some_iff.mp e
   rw [← e', List.drop_eq_getElem_cons hi]
  dsimp only at k
  rw [ed] at k
  exact k
 ·dsimp only at k
  rw [List.drop_length] at k
  exact k
def Gq (ow : Bool) (src : Yu) (ix : List (Option Nat)) (g : DTG) (tc : DTT) (te : DTE) : DTE := fun Δ M Φ => src Δ M fun ds M1 => ds.length ≤ sizeLine ∧ Q8 g tc te (Ej ix Δ) (CH ow Φ) ds [] M1
theorem UA {ow : Bool} {src : Yu} {ix : List (Option Nat)} {g : DTG} {tc : DTT} {te : DTE} (Δ : DSt) (M : Mp) (Φ : DK) (h : Gq ow src ix g tc te Δ M Φ) : LV ow (Zea src) ix g tc te Δ M Φ :=
 ⟨_, h, fun _ _ ⟨a, b⟩ => ⟨a, OY b⟩⟩
section
variable {X : Cx}
theorem N2 (ow : Bool) {elt tg iter : Expr} {ifs : List Expr} {scope : Scope} {pos : Pos} {src : Yu} {N : List Str} {ix : List (Option Nat)} {g : DTG} {tc : DTT} {te : DTE} (ok : V6 X scope N ix) (hi : DI X tg iter src)
  (hg : ∀ C ex s H, DG (Z2 X scope C N ex s H) tg g) (ht : ∀ C ex s H, DTs (Z2 X scope C N ex s H) ifs tc) (he : ∀ C ex s H, DE (Z2 X scope C N ex s H) elt te) (hc : X.calm = true)
  (hs : autoParam (∀ x, foldedSetIterable iter X.env x = pure x) zz2._auto_1) : DE X (.ListComp elt [⟨tg, iter, ifs, 0⟩] scope pos) (Gq ow src ix g tc te) :=
 Fy (QV ow ok hi.mono hg ht he hc hs) UA
theorem VW (i : Nat) (ow : Bool) {x : Str} {pos' spos : Pos} (hN : X.N.Nodup) {elt tg iter : Expr} {ifs : List Expr} {scope : Scope} {pos : Pos} {src : Yu} {N : List Str} {ix : List (Option Nat)} {g : DTG} {tc : DTT} {te : DTE} (ok : V6 X scope N ix) (hi : DI X tg iter src)
  (hg : ∀ C ex s H, DG (Z2 X scope C N ex s H) tg g) (ht : ∀ C ex s H, DTs (Z2 X scope C N ex s H) ifs tc) (he : ∀ C ex s H, DE (Z2 X scope C N ex s H) elt te) (hc : X.calm = true)
  (hs : autoParam (∀ x, foldedSetIterable iter X.env x = pure x) zz2._auto_1) (hin : autoParam (X.N[i]? = some x) zz3._auto_1) (hx : autoParam (Loc X.env.scope x) zz8._auto_1)
  (hsw : autoParam (swapsWith (.ListComp elt [⟨tg, iter, ifs, 0⟩] scope pos) (some (.Name x pos')) spos.line X.env = pure true) zz3._auto_1)
  (hf : autoParam (X.fn x = true ∨ X.env.scope.names.lookup x = some .local) zz0._auto_1) :
  DS X (.Assign [.Name x pos'] (.ListComp elt [⟨tg, iter, ifs, 0⟩] scope pos) spos) (Zdd (Gq ow src ix g tc te) (Kr i)) :=
 RO (Bm i ow hN ok hi.mono hg ht he hc hs hin hx hsw hf) fun D Δ M h => UA Δ M _ h
end
def VB (g : DTG) (tb : DTS) (D : QD) : List PyData → DSt → Mp → Prop
 | [], Δ, M => D.nx Δ M
 | d :: ds, Δ, M => g (.dat d) Δ M fun Δ2 M2 => tb { D with nx := VB g tb D ds, ct := VB g tb D ds, bk := D.nx } Δ2 M2
theorem MC (g : DTG) (tb : DTS) (D : QD) (Δ : DSt) (M : Mp) : VB g tb D [] Δ M = D.nx Δ M := by rw [VB]
theorem O6 (g : DTG) (tb : DTS) (D : QD) (d : PyData) (ds : List PyData) (Δ : DSt) (M : Mp) : VB g tb D (d :: ds) Δ M = g (.dat d) Δ M fun Δ2 M2 => tb { D with nx := VB g tb D ds, ct := VB g tb D ds, bk := D.nx } Δ2 M2 := by rw [VB]
theorem PZ {g : DTG} {tb : DTS} {D : QD} {ds : List PyData} {Δ : DSt} {M : Mp} (h : VB g tb D ds Δ M) : B3 g tb D ds Δ M := by
 refine ⟨fun i => VB g tb D (ds.drop i), by simpa using h, fun i d Δ M e k => ?_, fun Δ M k => ?_⟩
 ·have ed : ds.drop i = d :: ds.drop (i + 1) := by
   obtain ⟨hi, e'⟩ := List.getElem?_eq_some_iff.mp e
   rw [← e', List.drop_eq_getElem_cons hi]
  dsimp only at k
  rw [ed] at k
  exact k
 ·dsimp only at k
  rw [List.drop_length] at k
  exact k
theorem Dj (lo : Int) (n : Nat) : K4 lo (n + 1) = .int lo :: K4 (lo + 1) n := by
 unfold K4
 rw [List.range_succ_eq_map, List.map_cons, List.map_map]
 congr 1
 ·simp
 ·refine List.map_congr_left fun i _ => ?_
  show PyData.int _ = PyData.int _
  congr 1
  simp
  omega
theorem ZbV (lo : Int) : K4 lo 0 = [] := rfl
theorem Ra (lo : Int) : K4 lo 1 = [.int lo] := by rw [Dj]; rfl
theorem Rb (lo : Int) : K4 lo 2 = [.int lo, .int (lo + 1)] := by rw [Dj, Ra]
theorem Pw (lo : Int) : K4 lo 3 = [.int lo, .int (lo + 1), .int (lo + 1 + 1)] := by rw [Dj, Rb]
theorem ZbE (lo : Int) : K4 lo 4 = [.int lo, .int (lo + 1), .int (lo + 1 + 1), .int (lo + 1 + 1 + 1)] := by rw [Dj, Pw]
theorem Tj {g : DTG} {tb : DTS} {D : QD} {lo : Int} {n : Nat} {Δ : DSt} {M : Mp} (h : VB g tb D (K4 lo n) Δ M) : Ws g tb D lo n Δ M := by
 obtain ⟨J, a, b, c⟩ := PZ h
 refine ⟨J, a, fun i Δ M hi k => b i _ Δ M (Dw hi) k, fun Δ M k => c Δ M ?_⟩
 rw [C2]
 exact k
theorem Ot {A B : DTS} {D : QD} {Δ : DSt} {M : Mp} (h : ∀ R, R = B → Zdf A R D Δ M) : Zdf A B D Δ M := h B rfl
theorem Sw {l : List Int} {r : Int} (h0 : 0 ≤ r) (h1 : r < l.length) : ∃ w ∈ l, atI (l.map PyData.int) r = some (.int w) := by
 obtain ⟨d, e, hm⟩ := Hh (l := l.map PyData.int) h0 (by rw [List.length_map]; exact h1)
 obtain ⟨w, hw, rfl⟩ := List.mem_map.mp hm
 exact ⟨w, hw, e⟩
end DL
namespace DL
open PySem PySem.Spec PyProof.Rows L2
theorem BL  : ZP "int" .none = false := rfl
theorem Bc (b : Bool) : ZP "int" (.bool b) = true := rfl
theorem Ep (i : Int) : ZP "int" (.int i) = true := rfl
theorem Eg (z : Str) : ZP "int" (.str z) = false := rfl
theorem Ca (l : List PyData) : ZP "int" (.list l) = false := rfl
theorem Gm (l : List PyData) : ZP "int" (.tuple l) = false := rfl
theorem Bn (l : List (PyData × PyData)) : ZP "int" (.dict l) = false := rfl
theorem Gj  : ZP "bool" .none = false := rfl
theorem UX (b : Bool) : ZP "bool" (.bool b) = true := rfl
theorem Ci (i : Int) : ZP "bool" (.int i) = false := rfl
theorem BD (z : Str) : ZP "bool" (.str z) = false := rfl
theorem GU (l : List PyData) : ZP "bool" (.list l) = false := rfl
theorem WL (l : List PyData) : ZP "bool" (.tuple l) = false := rfl
theorem G0 (l : List (PyData × PyData)) : ZP "bool" (.dict l) = false := rfl
theorem Um  : ZP "tuple" .none = false := rfl
theorem W0 (b : Bool) : ZP "tuple" (.bool b) = false := rfl
theorem GA (i : Int) : ZP "tuple" (.int i) = false := rfl
theorem GS (z : Str) : ZP "tuple" (.str z) = false := rfl
theorem WD (l : List PyData) : ZP "tuple" (.list l) = false := rfl
theorem KZ (l : List PyData) : ZP "tuple" (.tuple l) = true := rfl
theorem Uy (l : List (PyData × PyData)) : ZP "tuple" (.dict l) = false := rfl
theorem Gz  : ZP "list" .none = false := rfl
theorem GP (b : Bool) : ZP "list" (.bool b) = false := rfl
theorem Bd (i : Int) : ZP "list" (.int i) = false := rfl
theorem Bv (z : Str) : ZP "list" (.str z) = false := rfl
theorem GW (l : List PyData) : ZP "list" (.list l) = true := rfl
theorem Ud (l : List PyData) : ZP "list" (.tuple l) = false := rfl
theorem U9 (l : List (PyData × PyData)) : ZP "list" (.dict l) = false := rfl
theorem G9  : ZP "str" .none = false := rfl
theorem BC (b : Bool) : ZP "str" (.bool b) = false := rfl
theorem Ed (i : Int) : ZP "str" (.int i) = false := rfl
theorem EE (z : Str) : ZP "str" (.str z) = true := rfl
theorem B8 (l : List PyData) : ZP "str" (.list l) = false := rfl
theorem Gk (l : List PyData) : ZP "str" (.tuple l) = false := rfl
theorem Cc (l : List (PyData × PyData)) : ZP "str" (.dict l) = false := rfl
theorem Gg  : ZP "dict" .none = false := rfl
theorem Gs (b : Bool) : ZP "dict" (.bool b) = false := rfl
theorem Cj (i : Int) : ZP "dict" (.int i) = false := rfl
theorem BF (z : Str) : ZP "dict" (.str z) = false := rfl
theorem Gu (l : List PyData) : ZP "dict" (.list l) = false := rfl
theorem WT (l : List PyData) : ZP "dict" (.tuple l) = false := rfl
theorem GK (l : List (PyData × PyData)) : ZP "dict" (.dict l) = true := rfl
theorem ZbF (i j : Int) : (PyData.int i).eqv (.int j) = decide (i = j) := by
 simp only [PyData.eqv]
 first | rfl | exact Bool.beq_eq_decide_eq _ _ | (rw [Bool.eq_iff_iff]; simp)
theorem ZdY (x y : Str) : (PyData.str x).eqv (.str y) = decide (x = y) := by
 simp only [PyData.eqv]
 first | rfl | (rw [Bool.eq_iff_iff]; simp)
theorem ZdR (x y : Bool) : (PyData.bool x).eqv (.bool y) = (x == y) := by
 simp only [PyData.eqv]
theorem ZdU : PyData.none.eqv .none = true := by simp only [PyData.eqv]
theorem Zd3 (x y : List PyData) : (PyData.tuple x).eqv (.tuple y) = PyData.eqvAll x y := by simp only [PyData.eqv]
theorem Oh (x y : List PyData) : (PyData.list x).eqv (.list y) = PyData.eqvAll x y := by simp only [PyData.eqv]
theorem By : PyData.eqvAll [] [] = true := by simp only [PyData.eqvAll]
theorem CP (x y : PyData) (xs ys : List PyData) : PyData.eqvAll (x :: xs) (y :: ys) = (x.eqv y && PyData.eqvAll xs ys) := by simp only [PyData.eqvAll]
theorem P6 (x : PyData) (xs : List PyData) : PyData.eqvAll (x :: xs) [] = false := by simp only [PyData.eqvAll]
theorem Zan (x : PyData) (xs : List PyData) : PyData.eqvAll [] (x :: xs) = false := by simp only [PyData.eqvAll]
end DL
namespace DL
open PySem PySem.Spec PyProof.Rows L2
section
variable {X : Cx} {pos : Pos}
def P0 (tc : DTT) (tb : DTS) : DTS := fun D Δ M => ∃ J : Nat → DSt → Mp → Prop, (∃ m, J m Δ M) ∧ ∀ n Δ M, J n Δ M → tc Δ M fun b M1 =>
 if b = true then tb { D with nx := fun Δ' M' => ∃ m, m < n ∧ J m Δ' M', ct := fun Δ' M' => ∃ m, m < n ∧ J m Δ' M', bk := D.nx } Δ M1 else D.nx Δ M1
theorem Oi {c : Expr} {body : List Stmt} {tc : DTT} {tb : DTS} (hc : DT X c tc) (hb : DSs X body tb) (hp : PassesOwn (model X.prog X.w) X.A X.env X.xe) : DS X (.While c body [] pos) (P0 tc tb) := by
 obtain ⟨t1, p1, q1⟩ := hc
 obtain ⟨t2, p2, q2⟩ := hb
 refine ⟨_, Nr hp p1 p2, fun σ H Δ M D E r e h k => ?_⟩
 obtain ⟨J, ⟨m0, j0⟩, jt⟩ := h
 refine ⟨fun n σ' H' => ∃ Δ' M', ZX X.K M' H' ∧ Step M H M' H' ∧ Jn X.K M' H' σ' Δ' ∧ J n Δ' M', ⟨m0, Δ, M, r, Step.refl, e, j0⟩, ?_⟩
 rintro n σ1 H1 ⟨Δ1, M1, r1, st1, e1, j1⟩
 refine q1 σ1 H1 Δ1 M1 _ _ r1 e1 (jt n Δ1 M1 j1) fun b H2 M2 r2 st2 hb2 => ?_
 cases b with
 | true =>
  rw [if_pos rfl] at hb2 ⊢
  refine ⟨fun σ' H' => ∃ m', m' < n ∧ ∃ Δ' M', ZX X.K M' H' ∧ Step M H M' H' ∧ Jn X.K M' H' σ' Δ' ∧ J m' Δ' M', fun σ' H' h => h, ?_⟩
  have s12 := st1.trans st2
  refine q2 σ1 H2 Δ1 M2 _ _ r2 (e1.step st2) hb2 ⟨fun σ' H' Δ' M' a b c d => ?_, k.rt.step s12, fun σ' H' Δ' M' a b c d => k.nx σ' H' Δ' M' a (s12.trans b) c d, fun σ' H' Δ' M' a b c d => ?_⟩
  ·obtain ⟨m, hm, j⟩ := d
   exact ⟨m, hm, Δ', M', a, s12.trans b, c, j⟩
  ·obtain ⟨m, hm, j⟩ := d
   exact ⟨m, hm, Δ', M', a, s12.trans b, c, j⟩
 | false =>
  rw [if_neg Bool.false_ne_true] at hb2 ⊢
  exact k.nx σ1 H2 Δ1 M2 r2 (st1.trans st2) (e1.step st2) hb2
def ZeT (to : DTE) : DTE := fun Δ M Φ => to Δ M fun x M1 => onO x fun l => ∃ ds d, M1 l = some (.lst (ds ++ [d])) ∧ Φ (.dat d) (Z8 M1 l (.lst ds))
theorem Dts.snoc_inv {K : PySem.W.Frag} {M : Mp} {H : Hp} : ∀ {vs : List V} {ds : List PyData} {d : PyData}, Dts K M H vs (ds ++ [d]) → ∃ ws v, vs = ws ++ [v] ∧ Dts K M H ws ds ∧ Dt K M H v d
 | vs, [], d, h => by
  cases h with
  | cons a b => cases b; exact ⟨[], _, rfl, .nil, a⟩
 | vs, e :: ds, d, h => by
  cases h with
  | cons a b =>
   obtain ⟨ws, v, rfl, h1, h2⟩ := Dts.snoc_inv b
   exact ⟨_ :: ws, v, rfl, .cons a h1, h2⟩
theorem ZcC {o : Expr} {to : DTE} {apos cpos : Pos} (ho : DE X o to) (hbase : autoParam (attributeBase o "pop" X.env (eval o X.env) = eval o X.env) zz3._auto_1) (hline : autoParam ((apos.endLine == cpos.line) = true) zz3._auto_1) :
  DE X (.Call (.Attribute o "pop" apos) [] [] cpos) (ZeT to) := by
 obtain ⟨t1, p1, q1⟩ := ho
 refine ⟨_, ZcN PySem.F.plainAttrs_list PySem.F.slot_list_pop PySem.F.type_list_pop ZcX p1 hbase hline, fun σ H Δ M Φ Q r e h k => ?_⟩
 refine q1 σ H Δ M _ _ r e h fun v H1 x M1 r1 st rv hx => ?_
 replace hx := Jf hx
 obtain ⟨l, rfl, ds, d, hm, hx⟩ := hx
 cases (show v = .ref l from rv)
 obtain ⟨vs, g1, g2⟩ := r1.ls l _ hm
 obtain ⟨ws, v, rfl, h1, h2⟩ := Dts.snoc_inv g2
 refine ⟨.inl ⟨rfl, _, SqL.of g1⟩, l, _, v, rfl, rfl, g1, by simp, ?_⟩
 rw [List.dropLast_concat]
 have st2 : Step M1 H1 (Z8 M1 l (.lst ds)) (upd H1 l (.lst ws)) := Step.De hm
 exact k.dat (r1.Xl st2 h1) (st.trans st2) (h2.step st2) hx
noncomputable def isNone : PyData → Bool
 | .none => true
 | _ => false
theorem Sd {K : PySem.W.Frag} {M : Mp} {H : Hp} {v : V} {d : PyData} (h : Dt K M H v d) : decide (v = .non) = isNone d := by
 cases h <;> rfl
def onN (x : DV) (P : Prop) : Prop := match x with | .dat .none => P | _ => False
theorem Zcj {x : DV} {P : Prop} (h : onN x P) : x = .dat .none ∧ P := by
 unfold onN at h
 split at h
 ·exact ⟨rfl, h⟩
 ·exact h.elim
def Zbz (b : Bool) : D2 := fun x y M Φ => onD x fun d => onN y <| Φ (.dat (.bool (isNone d != b))) M
theorem HR : OpD X (compareOp .Is) (Zbz false) := by
 refine ⟨_, Zcg, fun v u H x y M Φ Q r rv ru h k => ?_⟩
 replace h := QY h
 obtain ⟨d, rfl, h⟩ := h
 replace h := Zcj h
 obtain ⟨rfl, q⟩ := h
 cases (show Dt X.K M H u .none from ru)
 refine ⟨rfl, ?_⟩
 rw [Sd rv]
 rw [show isNone d = (isNone d != false) by cases isNone d <;> rfl]
 exact k.dat r Step.refl (Dt.bl _) q
theorem isNone_none : isNone .none = true := rfl
theorem Cf (b : Bool) : isNone (.bool b) = false := rfl
theorem DX (b : Int) : isNone (.int b) = false := rfl
theorem Em (b : Str) : isNone (.str b) = false := rfl
theorem BB (b : List PyData) : isNone (.list b) = false := rfl
theorem UR (b : List PyData) : isNone (.tuple b) = false := rfl
theorem BG (b : List (PyData × PyData)) : isNone (.dict b) = false := rfl
noncomputable def Zg4 (c : Bool) : PyData → Bool
 | .bool b => b == c
 | _ => false
theorem Fc (hu : X.A.units + 66 < cLine) : OpR X (compareOp .NotIn) (fun x y H Q => ∃ M d ds, Dt X.K M H x d ∧ (Dt X.K M H y (.list ds) ∨ Dt X.K M H y (.tuple ds)) ∧ d.canLay0 = true ∧ PyData.canLayAll0 ds = true ∧ d.depth ≤ 64 ∧ Q (.bl (!(ds.any fun e => PyData.eqv e d))) H) := by
 intro pins s σ H x y v u Q I rx ry h
 obtain ⟨M, d, ds, h1, h2, c1, c2, hdp, q⟩ := h
 obtain ⟨as, ra, _⟩ := h1.reads I rx
 rcases h2 with h2 | h2
 ·obtain ⟨bs, rb, _⟩ := h2.reads I ry
  exact PySem.SeqAt.notIn_list_reads rb ra c2 c1 (by have := Nat.min_le_right (PyData.depthAll ds) d.depth; omega) ⟨.bl _, H, I, rfl, q⟩
 ·obtain ⟨bs, rb, _⟩ := h2.reads I ry
  exact PySem.SeqAt.notIn_tuple_reads rb ra c2 c1 (by have := Nat.min_le_right (PyData.depthAll ds) d.depth; omega) ⟨.bl _, H, I, rfl, q⟩
def FI : D2 := fun x y M Φ => onD x fun d => onW y fun ds => okIn d ds = true ∧ Φ (.dat (.bool (!(ds.any fun e => PyData.eqv e d)))) M
theorem Cs {k : Nat} (hr : Xw k X.A) : OpD X (compareOp .NotIn) FI :=
 ⟨_, Fc (by have := hr.un; omega), fun v u H x y M Φ Q r rv ru h k => by
  obtain ⟨d, e1, h⟩ := QY h
  obtain ⟨ds, e2, ho, q⟩ := Zav h
  obtain ⟨c1, c2, hdp⟩ := TK ho
  subst e1
  refine ⟨M, d, ds, rv, ?_, c1, c2, hdp, k.dat r Step.refl (Dt.bl _) q⟩
  rcases e2 with rfl | rfl
  ·exact .inl ru
  ·exact .inr ru⟩
def MK : D2 := fun x y M Φ => onP x fun i j => onO y fun l => SD (M l) fun ks => Φ (.dat (.bool (!Rq ks (kP i j)))) M
end
section
variable {prog : Program} {w : World} {A : Around} {E : Value → Shared → Prop} {s : Shared}
end
end DL
namespace DL
open PySem PySem.Spec PyProof.Rows L2
theorem Of (x : DV) (P : DV → Prop) : onV (some (some x)) P = P x := propext Iff.rfl
theorem NG (i : Int) (P : Int → Prop) : onI (.dat (.int i)) P = P i := propext Iff.rfl
theorem MI (i : Bool) (P : Bool → Prop) : onB (.dat (.bool i)) P = P i := propext Iff.rfl
theorem O0 (i : Str) (P : Str → Prop) : onS (.dat (.str i)) P = P i := propext Iff.rfl
theorem MH (i : List PyData) (P : List PyData → Prop) : onT (.dat (.tuple i)) P = P i := propext Iff.rfl
theorem Mw (i : List PyData) (P : List PyData → Prop) : onL (.dat (.list i)) P = P i := propext Iff.rfl
theorem Ou (i : PyData) (P : PyData → Prop) : onD (.dat i) P = P i := propext Iff.rfl
theorem MW (i : Addr) (P : Addr → Prop) : onO (.own i) P = P i := propext Iff.rfl
theorem Hy (ds : List PyData) (P : List PyData → Prop) : XE (some (.lst ds)) P = P ds := propext Iff.rfl
theorem RH (ds : List PyData) (M : Mp) (P : List PyData → Prop) : onQ (.dat (.tuple ds)) M P = P ds := propext Iff.rfl
theorem SG (ds : List PyData) (M : Mp) (P : List PyData → Prop) : onQ (.dat (.list ds)) M P = P ds := propext Iff.rfl
theorem Rx (l : Addr) (M : Mp) (P : List PyData → Prop) : onQ (.own l) M P = XE (M l) P := propext Iff.rfl
theorem Tc (ds : List PyData) (M : Mp) (P : List PyData → Prop) : onK (.dat (.list ds)) M P = P ds := propext Iff.rfl
theorem SM (l : Addr) (M : Mp) (P : List PyData → Prop) : onK (.own l) M P = XE (M l) P := propext Iff.rfl
theorem Nw (x : DV) (P : DV → Prop) : on1 [x] P = P x := propext Iff.rfl
theorem NT (x y : DV) (P : DV → DV → Prop) : on2 [x, y] P = P x y := propext Iff.rfl
theorem Nj (x y z : DV) (P : DV → DV → DV → Prop) : on3 [x, y, z] P = P x y z := propext Iff.rfl
theorem ND (x0 x1 x2 x3 : DV) (P : DV → DV → DV → DV → Prop) : on4 [x0, x1, x2, x3] P = P x0 x1 x2 x3 := propext Iff.rfl
theorem Mx (P : List PyData → Prop) : KU [] P = P [] := propext Iff.rfl
theorem Np (a0 : PyData) (P : List PyData → Prop) : KU [.dat a0] P = P [a0] := propext Iff.rfl
theorem Oy (a0 a1 : PyData) (P : List PyData → Prop) : KU [.dat a0, .dat a1] P = P [a0, a1] := propext Iff.rfl
theorem Nx (a0 a1 a2 : PyData) (P : List PyData → Prop) : KU [.dat a0, .dat a1, .dat a2] P = P [a0, a1, a2] := propext Iff.rfl
theorem Mo (a0 a1 a2 a3 : PyData) (P : List PyData → Prop) : KU [.dat a0, .dat a1, .dat a2, .dat a3] P = P [a0, a1, a2, a3] := propext Iff.rfl
theorem OF (a0 a1 a2 a3 a4 : PyData) (P : List PyData → Prop) : KU [.dat a0, .dat a1, .dat a2, .dat a3, .dat a4] P = P [a0, a1, a2, a3, a4] := propext Iff.rfl
theorem O4 (a0 a1 a2 a3 a4 a5 : PyData) (P : List PyData → Prop) : KU [.dat a0, .dat a1, .dat a2, .dat a3, .dat a4, .dat a5] P = P [a0, a1, a2, a3, a4, a5] := propext Iff.rfl
theorem ZcD (i : Nat) (Δ : DSt) (M : Mp) (Φ : DK) : Zfc i Δ M Φ = (onV Δ[i]? fun x => Φ x M) := propext Iff.rfl
theorem Zgk (d : PyData) (z0 : DSt) (M : Mp) (Φ : DK) : dC d z0 M Φ = (Φ (.dat d) M) := propext Iff.rfl
theorem Zel (n : String) (z0 : DSt) (M : Mp) (Φ : DK) : dTy n z0 M Φ = (Φ (.ty n) M) := propext Iff.rfl
theorem Zd5 (δ : D2) (ta tb : DTE) (Δ : DSt) (M : Mp) (Φ : DK) : dOp δ ta tb Δ M Φ = (ta Δ M fun x M1 => tb Δ M1 fun y M2 => δ x y M2 Φ) := propext Iff.rfl
theorem Zgs (t : DTE) (Δ : DSt) (M : Mp) (Φ : Bool → Mp → Prop) : dB t Δ M Φ = (t Δ M fun x M1 => onB x fun c => Φ c M1) := propext Iff.rfl
theorem OM (δ δ' : D2) (ta tb tc : DTE) (Δ : DSt) (M : Mp) (Φ : DK) : C7 δ δ' ta tb tc Δ M Φ = (ta Δ M fun x M1 => tb Δ M1 fun y M2 => δ x y M2 fun z M3 => onB z fun k => (if k = true then tc Δ M3 fun w' M4 => δ' y w' M4 Φ else Φ (.dat (.bool false)) M3)) := propext Iff.rfl
theorem Zcm (t u : DTT) (Δ : DSt) (M : Mp) (Φ : Bool → Mp → Prop) : ZeX t u Δ M Φ = (t Δ M fun c M1 => if c = true then u Δ M1 Φ else Φ false M1) := propext Iff.rfl
theorem ZeH (t u : DTT) (Δ : DSt) (M : Mp) (Φ : Bool → Mp → Prop) : dOr t u Δ M Φ = (t Δ M fun c M1 => if c = true then Φ true M1 else u Δ M1 Φ) := propext Iff.rfl
theorem Zao (t : DTT) (Δ : DSt) (M : Mp) (Φ : Bool → Mp → Prop) : ZfE t Δ M Φ = (t Δ M fun c M1 => Φ (!c) M1) := propext Iff.rfl
theorem TL (ta tb : DTE) (Δ : DSt) (M : Mp) (Φ : DK) : Za1 ta tb Δ M Φ = (ta Δ M fun x M1 => onB x fun c => if c = true then tb Δ M1 Φ else Φ (.dat (.bool false)) M1) := propext Iff.rfl
theorem Sb (ta : DTE) (Δ : DSt) (M : Mp) (Φ : DK) : Zcl ta Δ M Φ = (ta Δ M fun x M1 => onB x fun c => Φ (.dat (.bool (!c))) M1) := propext Iff.rfl
theorem Zd4 (t : DTT) (ta tb : DTE) (Δ : DSt) (M : Mp) (Φ : DK) : dIf t ta tb Δ M Φ = (t Δ M fun c M1 => if c = true then ta Δ M1 Φ else tb Δ M1 Φ) := propext Iff.rfl
theorem ZbO (g : Int → Int) (ta : DTE) (Δ : DSt) (M : Mp) (Φ : DK) : Ze4 g ta Δ M Φ = (ta Δ M fun x M1 => onI x fun i => Φ (.dat (.int (g i))) M1) := propext Iff.rfl
theorem Zeb (C : Int → Int → Prop) (g : Int → Int → PyData) (x : DV) (y : DV) (M : Mp) (Φ : DK) : δI C g x y M Φ = (onI x fun i => onI y fun j => C i j ∧ Φ (.dat (g i j)) M) := propext Iff.rfl
theorem ZaC (g : Int → Int → PyData) (x : DV) (y : DV) (M : Mp) (Φ : DK) : δI0 g x y M Φ = (onI x fun i => onI y fun j => Φ (.dat (g i j)) M) := propext Iff.rfl
theorem ZeI (g : Bool → Bool → Bool) (x : DV) (y : DV) (M : Mp) (Φ : DK) : δB g x y M Φ = (onB x fun c => onB y fun d => Φ (.dat (.bool (g c d))) M) := propext Iff.rfl
theorem Zbx  (z0 : DSt) (M : Mp) (Φ : List DV → Mp → Prop) : Ze0 z0 M Φ = (Φ [] M) := propext Iff.rfl
theorem Tr (ta : DTE) (tr : DTA) (Δ : DSt) (M : Mp) (Φ : List DV → Mp → Prop) : Zbk ta tr Δ M Φ = (ta Δ M fun x M1 => tr Δ M1 fun xs M2 => Φ (x :: xs) M2) := propext Iff.rfl
theorem Zas (t : DTA) (Δ : DSt) (M : Mp) (Φ : DK) : Zfn t Δ M Φ = (t Δ M fun xs M1 => KU xs fun ds => Φ (.dat (.tuple ds)) M1) := propext Iff.rfl
theorem Zcq (t : DTA) (Δ : DSt) (M : Mp) (Φ : DK) : Zfs t Δ M Φ = (t Δ M fun xs M1 => KU xs fun ds => Φ (.dat (.list ds)) M1) := propext Iff.rfl
theorem SQ (t : DTA) (Δ : DSt) (M : Mp) (Φ : DK) : Zdb t Δ M Φ = (t Δ M fun xs M1 => KU xs fun ds => ∀ p, M1 p = none → Φ (.own p) (Z8 M1 p (.lst ds))) := propext Iff.rfl
theorem Zbm (t : DTE) (Δ : DSt) (M : Mp) (Φ : DK) : Zfq t Δ M Φ = (t Δ M fun x M1 => onO x fun l => XE (M1 l) fun ds => Φ (.dat (.list ds)) (Ku M1 l)) := propext Iff.rfl
theorem OQ (a : PyData) (l : List PyData) (P : PyData → Prop) : KR (a :: l) 0 P = P a := propext Iff.rfl
theorem Pb (a b : PyData) (l : List PyData) (P : PyData → Prop) : KR (a :: b :: l) 1 P = P b := propext Iff.rfl
theorem N9 (a b c : PyData) (l : List PyData) (P : PyData → Prop) : KR (a :: b :: c :: l) 2 P = P c := propext Iff.rfl
theorem Pd (a b c d : PyData) (l : List PyData) (P : PyData → Prop) : KR (a :: b :: c :: d :: l) 3 P = P d := propext Iff.rfl
theorem Oq (a b c d e : PyData) (l : List PyData) (P : PyData → Prop) : KR (a :: b :: c :: d :: e :: l) 4 P = P e := propext Iff.rfl
theorem Zai  (x : DV) (y : DV) (M : Mp) (Φ : DK) : δIx x y M Φ = (onQ x M fun ds => onI y fun i => KR ds i fun d => Φ (.dat d) M) := propext Iff.rfl
theorem ZdK (δ : D1) (t : DTA) (Δ : DSt) (M : Mp) (Φ : DK) : dCB δ t Δ M Φ = (t Δ M fun xs M1 => δ xs M1 Φ) := propext Iff.rfl
theorem R6  (xs : List DV) (M : Mp) (Φ : DK) : ZbA xs M Φ = (on1 xs fun x => onQ x M fun ds => Φ (.dat (.int ds.length)) M) := propext Iff.rfl
theorem R3  (xs : List DV) (M : Mp) (Φ : DK) : Zc6 xs M Φ = (on1 xs fun x => onI x fun i => Φ (.dat (.int (if i < 0 then -i else i))) M) := propext Iff.rfl
theorem Zck (g : Int → Int → Int) (xs : List DV) (M : Mp) (Φ : DK) : δ2I g xs M Φ = (on2 xs fun x y => onI x fun i => onI y fun j => Φ (.dat (.int (g i j))) M) := propext Iff.rfl
theorem D9  (xs : List DV) (M : Mp) (Φ : DK) : Cz xs M Φ = (on1 xs fun x => onQ x M fun ds => Φ (.dat (.list ds)) M) := propext Iff.rfl
theorem DM (T : String) (d : PyData) (t : String) (M : Mp) (Φ : DK) : Su T [.dat d, .ty t] M Φ = (t = T ∧ Φ (.dat (.bool (ZP T d))) M) := propext Iff.rfl
theorem NA (i j : Int) (P : Bool → Prop) : eqD (.int i) (.int j) P = P (decide (i = j)) := propext Iff.rfl
theorem NM (i j : Str) (P : Bool → Prop) : eqD (.str i) (.str j) P = P (decide (i = j)) := propext Iff.rfl
theorem Zb8  (x : DV) (y : DV) (M : Mp) (Φ : DK) : δEq x y M Φ = (onD x fun d => onD y fun e => eqD d e fun b => Φ (.dat (.bool b)) M) := propext Iff.rfl
theorem Zbr  (x : DV) (y : DV) (M : Mp) (Φ : DK) : δNe x y M Φ = (onD x fun d => onD y fun e => eqD d e fun b => Φ (.dat (.bool (!b))) M) := propext Iff.rfl
theorem ES  (z0 : DSt) (M : Mp) (Φ : Option Int → Mp → Prop) : FY z0 M Φ = (Φ none M) := propext Iff.rfl
theorem Rm (t : DTE) (Δ : DSt) (M : Mp) (Φ : Option Int → Mp → Prop) : ZcP t Δ M Φ = (t Δ M fun x M1 => onI x fun i => Φ (some i) M1) := propext Iff.rfl
theorem ZaM (te : DTE) (tl th : DTO) (Δ : DSt) (M : Mp) (Φ : DK) : Zfz te tl th Δ M Φ = (te Δ M fun x M1 => tl Δ M1 fun l M2 => th Δ M2 fun u M3 => onT x fun ds => ¬ (HT.sIx ds.length 0 l = 0 ∧ HT.sIx ds.length ds.length u = ds.length) ∧ Φ (.dat (.tuple (cutD ds l u))) M3) := propext Iff.rfl
theorem Rz  (D : QD) (Δ : DSt) (M : Mp) : ZaI D Δ M = (D.nx Δ M) := propext Iff.rfl
theorem ZcW (t u : DTS) (D : QD) (Δ : DSt) (M : Mp) : Zdf t u D Δ M = (t { D with nx := u D } Δ M) := propext Iff.rfl
theorem RF (te : DTE) (D : QD) (Δ : DSt) (M : Mp) : ZcG te D Δ M = (te Δ M fun _ M1 => D.nx Δ M1) := propext Iff.rfl
theorem ZaB (te : DTE) (D : QD) (Δ : DSt) (M : Mp) : Zfe te D Δ M = (te Δ M D.rt) := propext Iff.rfl
theorem Zcp (c : DTT) (t u : DTS) (D : QD) (Δ : DSt) (M : Mp) : Zdk c t u D Δ M = (c Δ M fun b M1 => if b = true then t D Δ M1 else u D Δ M1) := propext Iff.rfl
theorem XI (i : Nat) (x : DV) (Δ : DSt) (M : Mp) (Φ : DSt → Mp → Prop) : Kr i x Δ M Φ = (Φ (Δ.set i (some x)) M) := propext Iff.rfl
theorem Ee (Δ : DSt) (M : Mp) (Φ : DSt → Mp → Prop) : TQ [] Δ M Φ = Φ Δ M := propext Iff.rfl
theorem Bh (t : DTG) (u : EM) (x : DV) (r : List DV) (Δ : DSt) (M : Mp) (Φ : DSt → Mp → Prop) : CW t u (x :: r) Δ M Φ = t x Δ M fun Δ' M' => u r Δ' M' Φ := propext Iff.rfl
theorem Ob (P : List DV → Prop) : Me 0 [] P = P [] := propext Iff.rfl
theorem O2 (n : Nat) (d : PyData) (r : List PyData) (P : List DV → Prop) : Me (n + 1) (d :: r) P = Me n r fun xs => P (.dat d :: xs) := propext Iff.rfl
theorem RU (n : Nat) (t : EM) (x : DV) (Δ : DSt) (M : Mp) (Φ : DSt → Mp → Prop) : Zbd n t x Δ M Φ = (onT x fun ds => Me n ds fun xs => t xs Δ M Φ) := propext Iff.rfl
theorem R9 (to ti : DTE) (x : DV) (Δ : DSt) (M : Mp) (Φ : DSt → Mp → Prop) : Zby to ti x Δ M Φ = (to Δ M fun o M1 => ti Δ M1 fun i M2 => onO o fun l => onI i fun k => onD x fun d => XE (M2 l) fun ds => ∃ j, ixN ds.length k = some j ∧ Φ Δ (Z8 M2 l (.lst (ds.set j d)))) := propext Iff.rfl
theorem Za9 (te : DTE) (g : DTG) (D : QD) (Δ : DSt) (M : Mp) : Zdd te g D Δ M = (te Δ M fun x M1 => g x Δ M1 D.nx) := propext Iff.rfl
theorem FF (to te : DTE) (Δ : DSt) (M : Mp) (Φ : DK) : FK to te Δ M Φ = (to Δ M fun x M1 => onO x fun l => XE (M1 l) fun _ => te Δ M1 fun y M2 => onD y fun d => XE (M2 l) fun ds => ds.length < sizeLine ∧ Φ (.dat .none) (Z8 M2 l (.lst (ds ++ [d])))) := propext Iff.rfl
theorem Sr (te : DTE) (g : DTG) (tb : DTS) (D : QD) (Δ : DSt) (M : Mp) : ZbB te g tb D Δ M = (te Δ M fun x M1 => onL x fun ds => B3 g tb D ds Δ M1) := propext Iff.rfl
theorem SE (te : DTE) (g : DTG) (tb : DTS) (D : QD) (Δ : DSt) (M : Mp) : ZbJ te g tb D Δ M = (te Δ M fun x M1 => onT x fun ds => B3 g tb D ds Δ M1) := propext Iff.rfl
theorem NC (ta : DTA) (g : DTG) (tb : DTS) (D : QD) (Δ : DSt) (M : Mp) : PH ta g tb D Δ M = (ta Δ M fun xs M1 => on1 xs fun x => onI x fun j => InR j ∧ Ws g tb D 0 j.toNat Δ M1) := propext Iff.rfl
theorem Tp (S : DSp) (t : DTA) (Δ : DSt) (M : Mp) (Φ : DK) : Zbw S t Δ M Φ = (t Δ M fun xs M1 => S xs M1 Φ) := propext Iff.rfl
theorem ZaS (te : DTE) (Δ : DSt) (M : Mp) (Ψ : List PyData → Mp → Prop) : Zfh te Δ M Ψ = (te Δ M fun x M1 => onL x fun ds => Ψ ds M1) := propext Iff.rfl
theorem ZaK (te : DTE) (Δ : DSt) (M : Mp) (Ψ : List PyData → Mp → Prop) : ZeS te Δ M Ψ = (te Δ M fun x M1 => onT x fun ds => Ψ ds M1) := propext Iff.rfl
theorem RB (ta : DTA) (Δ : DSt) (M : Mp) (Ψ : List PyData → Mp → Prop) : Zam ta Δ M Ψ = (ta Δ M fun xs M1 => on1 xs fun x => onI x fun j => InR j ∧ Ψ (K4 0 j.toNat) M1) := propext Iff.rfl
theorem MO (Φ : DK) (acc : List PyData) (M : Mp) : CH true Φ acc M = ∀ p, M p = none → Φ (.own p) (Z8 M p (.lst acc)) := propext Iff.rfl
theorem Nn (Φ : DK) (acc : List PyData) (M : Mp) : CH false Φ acc M = Φ (.dat (.list acc)) M := propext Iff.rfl
theorem TH (ow : Bool) (src : Yu) (ix : List (Option Nat)) (g : DTG) (tc : DTT) (te : DTE) (Δ : DSt) (M : Mp) (Φ : DK) : LV ow src ix g tc te Δ M Φ = (src Δ M fun ds M1 => ds.length ≤ sizeLine ∧ ∃ J : Nat → List PyData → Mp → Prop, J 0 [] M1 ∧ (∀ i d acc M', ds[i]? = some d → J i acc M' → g (.dat d) (Ej ix Δ) M' fun Δ2 M2 => tc Δ2 M2 fun b M3 => if b = true then te Δ2 M3 fun y M4 => onD y fun e => J (i + 1) (acc ++ [e]) M4 else J (i + 1) acc M3) ∧ ∀ acc M', J ds.length acc M' → CH ow Φ acc M') := propext Iff.rfl
theorem Zcb  (z0 : DSt) (M : Mp) (Φ : Bool → Mp → Prop) : Ze8 z0 M Φ = (Φ true M) := propext Iff.rfl
theorem Hj  (xs : List DV) (M : Mp) (Φ : DK) : Hg xs M Φ = (∃ ns : List Int, J4 xs M ns ∧ ns.length < 64 ∧ ∀ ns' : List Int, ns'.Perm ns → ns'.Pairwise (· ≤ ·) → Φ (.dat (.list (ns'.map PyData.int))) M) := propext Iff.rfl
theorem NV  (xs : List DV) (M : Mp) (Φ : DK) : Pn xs M Φ = (∃ ns : List Int, J4 xs M ns ∧ 0 < ns.length ∧ ∀ m ∈ ns, (∀ a ∈ ns, m ≤ a) → Φ (.dat (.int m)) M) := propext Iff.rfl
theorem NY  (xs : List DV) (M : Mp) (Φ : DK) : Pk xs M Φ = (∃ ns : List Int, J4 xs M ns ∧ 0 < ns.length ∧ ∀ m ∈ ns, (∀ a ∈ ns, a ≤ m) → Φ (.dat (.int m)) M) := propext Iff.rfl
theorem Zay (g : Int → Int → Int → Int) (xs : List DV) (M : Mp) (Φ : DK) : δ3I g xs M Φ = (on3 xs fun x y z => onI x fun i => onI y fun j => onI z fun l => Φ (.dat (.int (g i j l))) M) := propext Iff.rfl
theorem Lz  (xs : List DV) (M : Mp) (Φ : DK) : E4 xs M Φ = (on1 xs fun x => onQ x M fun ds => Φ (.dat (.tuple ds)) M) := propext Iff.rfl
theorem Rh (ds : List PyData) (P : List PyData → Prop) : onW (.dat (.tuple ds)) P = P ds := propext Iff.rfl
theorem Ha (to te : DTE) (Δ : DSt) (M : Mp) (Φ : DK) : LU to te Δ M Φ = (to Δ M fun x M1 => onO x fun l => XE (M1 l) fun _ => te Δ M1 fun y M2 => onO y fun b => XE (M2 l) fun ds => XE (M2 b) fun es => b ≠ l ∧ ds.length + es.length ≤ sizeLine ∧ Φ (.dat .none) (Ku (Z8 M2 l (.lst (ds ++ es))) b)) := propext Iff.rfl
theorem Zc9 (te : DTE) (tl th : DTO) (Δ : DSt) (M : Mp) (Φ : DK) : Zfi te tl th Δ M Φ = (te Δ M fun x M1 => tl Δ M1 fun l M2 => th Δ M2 fun u M3 => onL x fun ds => Φ (.dat (.list (cutD ds l u))) M3) := propext Iff.rfl
theorem Oz  (xs : List DV) (M : Mp) (Φ : DK) : Pp xs M Φ = (∃ bs : List Bool, xs = [.dat (.list (bs.map PyData.bool))] ∧ Φ (.dat (.bool (bs.any id))) M) := propext Iff.rfl
theorem Dk  (x : DV) (y : DV) (M : Mp) (Φ : DK) : PU x y M Φ = (onK x M fun ds => onK y M fun es => ds.length + es.length ≤ sizeLine ∧ Φ (.dat (.list (ds ++ es))) M) := propext Iff.rfl
theorem Cq  (xs : List DV) (M : Mp) (Φ : DK) : PX xs M Φ = (∃ qs : List (Int × Int), xs = [.dat (.list (qs.map prD))] ∧ 0 < qs.length ∧ ∀ q ∈ qs, (∀ r ∈ qs, ltP r q = false) → Φ (.dat (prD q)) M) := propext Iff.rfl
theorem Mz (i j : Int) (P : Int → Int → Prop) : onP (.dat (.tuple [.int i, .int j])) P = P i j := propext Iff.rfl
theorem Ss (te : DTE) (tl th : DTO) (Δ : DSt) (M : Mp) (Φ : DK) : ZaG te tl th Δ M Φ = (te Δ M fun x M1 => tl Δ M1 fun l M2 => th Δ M2 fun u M3 => onT x fun ds => Φ (.dat (.tuple (cutD ds l u))) M3) := propext Iff.rfl
theorem O1 (ow : Bool) (src : Yu) (ix : List (Option Nat)) (g : DTG) (tc : DTT) (te : DTE) (Δ : DSt) (M : Mp) (Φ : DK) : Gq ow src ix g tc te Δ M Φ = (src Δ M fun ds M1 => ds.length ≤ sizeLine ∧ Q8 g tc te (Ej ix Δ) (CH ow Φ) ds [] M1) := propext Iff.rfl
theorem MQ (tc : DTT) (tb : DTS) (D : QD) (Δ : DSt) (M : Mp) : P0 tc tb D Δ M = (∃ J : Nat → DSt → Mp → Prop, (∃ m, J m Δ M) ∧ ∀ n Δ M, J n Δ M → tc Δ M fun b M1 => if b = true then tb { D with nx := fun Δ' M' => ∃ m, m < n ∧ J m Δ' M', ct := fun Δ' M' => ∃ m, m < n ∧ J m Δ' M', bk := D.nx } Δ M1 else D.nx Δ M1) := propext Iff.rfl
theorem ZbD (to : DTE) (Δ : DSt) (M : Mp) (Φ : DK) : ZeT to Δ M Φ = (to Δ M fun x M1 => onO x fun l => ∃ ds d, M1 l = some (.lst (ds ++ [d])) ∧ Φ (.dat d) (Z8 M1 l (.lst ds))) := propext Iff.rfl
theorem NX (P : Prop) : onN (.dat .none) P = P := propext Iff.rfl
theorem SF (b : Bool) (x : DV) (y : DV) (M : Mp) (Φ : DK) : Zbz b x y M Φ = (onD x fun d => onN y <| Φ (.dat (.bool (isNone d != b))) M) := propext Iff.rfl
theorem Hq  (x : DV) (y : DV) (M : Mp) (Φ : DK) : FI x y M Φ = (onD x fun d => onW y fun ds => okIn d ds = true ∧ Φ (.dat (.bool (!(ds.any fun e => PyData.eqv e d)))) M) := propext Iff.rfl
end DL
namespace DL
open PySem PySem.Spec PyProof.Rows L2
section
variable {prog : Program} {w : World} {A : Around} {E : Value → Shared → Prop} {s : Shared}
end
section
variable {X : Cx} {pos p kp kpos : Pos} {x : Str} {a : Expr} {t : TA} {kj}
def ZfV (K : PySem.W.Frag) : List V → Hp → VK → Prop := fun xs H Q => ∃ (p : Addr) (vs : List V) (qs : List (Int × Int)), xs = [.ref p] ∧ SqL K H p vs ∧ vs.length = qs.length ∧ (∀ (i : Nat) (q : Int × Int), qs[i]? = some q → ∃ a : Addr, vs[i]? = some (V.ref a) ∧ SqT K H a [.int q.1, .int q.2]) ∧
 (qs = [] → Q .non H) ∧ ∀ (i : Nat) (q : Int × Int) (v : V), qs[i]? = some q → vs[i]? = some v → (∀ r ∈ qs, ltP r q = false) → Q v H
def Zgb (ta : DTA) : DTE := fun Δ M Φ => ta Δ M fun xs M1 => on1 xs fun x => ∃ qs : List (Int × Int), Mc x M1 (qs.map prD) ∧ (qs = [] → Φ (.dat .none) M1) ∧ ∀ q ∈ qs, (∀ r ∈ qs, ltP r q = false) → Φ (.dat (prD q)) M1
end
end DL
namespace DL
open PySem PySem.Spec PyProof.Rows L2 PySem.W
theorem HK (its : List Value) : slicePick its.toArray none none (some (-1)) = its.reverse.toArray := by
  have hr : sliceRange ((its.length : Int) - 1) (-1) (-1) = (List.range its.length).map fun (k : Nat) => its.length - 1 - k := by
    unfold sliceRange
    have hc : (if (-1 : Int) > 0 then (if (its.length : Int) - 1 < -1 then (-1 - ((its.length : Int) - 1) + -1 - 1) / -1 else 0)
                     else (if (its.length : Int) - 1 > -1 then ((its.length : Int) - 1 - -1 - -1 - 1) / (- -1) else 0)).toNat = its.length := by
      rw [if_neg (by decide)]
      split
      · rw [show -(-1 : Int) = 1 from rfl, Int.ediv_one]
        omega
      · omega
    dsimp only
    rw [hc]
    refine List.map_congr_left fun k _ => ?_
    omega
  unfold slicePick
  show ((sliceRange ((its.toArray.size : Int) - 1) (-1) (-1)).filterMap (its.toArray[·]?)).toArray = _
  rw [List.size_toArray, hr, List.filterMap_map]
  congr 1
  have h1 : ((List.range its.length).filterMap ((fun (x : Nat) => its.toArray[x]?) ∘ fun (k : Nat) => its.length - 1 - k)) = (List.range its.length).filterMap (fun (k : Nat) => some ((its.reverse[k]?).getD .none)) := by
    refine Df fun k hk => ?_
    have hk := List.mem_range.mp hk
    show its.toArray[its.length - 1 - k]? = _
    rw [List.getElem?_toArray, List.getElem?_reverse hk, List.getElem?_eq_getElem (by omega)]
    rfl
  rw [h1]
  have h2 : (fun (k : Nat) => some ((its.reverse[k]?).getD Value.none)) = some ∘ fun (k : Nat) => (its.reverse[k]?).getD Value.none := rfl
  rw [h2, List.filterMap_eq_map]
  refine List.ext_getElem (by simp) fun i a b => ?_
  rw [List.getElem_map, List.getElem_range, List.getElem?_eq_getElem b]
  rfl
section
variable {X : Cx}
theorem So {e st : Expr} {te ts : TE} {p2 pos : Pos} (he : PE X e te) (hs : PE X st ts) {ops : Value → Value → List Value} (hsub : ∀ v u, subscripted (.Slice none none (some st) p2) false v u = operate (ops v u) (getItem v u)) : PE X (.Subscript e (.Slice none none (some st) p2) pos)
  (fun σ H Q => te σ H fun x H1 => ts σ H1 fun y H2 => ∃ a xs, x = .ref a ∧ y = .int (-1) ∧ SqL X.K H2 a xs ∧ ∀ p, H2 p = none → Q (.ref p) (upd H2 p (.lst xs.reverse))) := by
 intro pins s σ H Q I h
 refine Subscript_ (thn (he pins s σ H _ I h) fun v s1 ⟨x, H1, I1, r1, q1⟩ => ?_)
 refine wpAny_Slice ?_
 rw [evalPart_none]
 refine wpAny_pure (wpAny_pure ?_)
 rw [evalPart_some]
 refine thn (hs pins s1 σ H1 _ I1 q1) fun u s2 ⟨y, H2, I2, ry, a, xs, ex, ey, hq, q2⟩ => ?_
 subst ex ey
 cases (show v = .ref a from r1)
 obtain ⟨tk, rfl⟩ := ry
 have I4 : Inv X pins σ H2 { s2 with heap := s2.heap.push { cls := .type "slice", data := .fields #[.none, .none, .int (-1) tk] } } := I2.kept (t' := s2.toks) fun b ob q => Heap.get?_push_of_some _ q
 obtain ⟨its, r, ht, hz⟩ := I4.list hq
 have hlen := r.length
 refine tail_any (ops := ops (.ref a) (.ref s2.heap.objs.size)) ht.isList.typeIs slot_list_getitem.lookup (wpAny_getItem_list_slice ht.isList (Heap.IsSliceOf.new ..) .none .none (.int (-1) tk) (by decide) ?_ (by rw [List.size_toArray] <;> omega)) (hsub _ _)
 rw [HK]
 refine ⟨.ref _, _, I4.laid (t' := _) (o := .lst xs.reverse) (fun b ob q => Heap.get?_push_of_some _ q) (Nat.le_refl _) ?_, rfl, q2 _ (I4.hok.fresh (Nat.le_refl _))⟩
 exact ⟨by rw [List.length_reverse]; exact hz, _, 0, r.reverse, Heap.get?_push_size _ rfl⟩
def ZaP (te ts : DTE) : DTE := fun Δ M Φ => te Δ M fun x M1 => ts Δ M1 fun y M2 => onK x M2 fun ds => onI y fun i => i = -1 ∧ Φ (.dat (.list ds.reverse)) M2
theorem Tv {e st : Expr} {te ts : DTE} {p2 pos : Pos} (he : DE X e te) (hs : DE X st ts) {ops : Value → Value → List Value} (hsub : autoParam (∀ v u, subscripted (.Slice none none (some st) p2) false v u = operate (ops v u) (getItem v u)) zz9._auto_1) : DE X (.Subscript e (.Slice none none (some st) p2) pos) (ZaP te ts) := by
 obtain ⟨t1, p1, q1⟩ := he
 obtain ⟨t2, p2, q2⟩ := hs
 refine ⟨_, So p1 p2 hsub, fun σ H Δ M Φ Q r e h k => ?_⟩
 refine q1 σ H Δ M _ _ r e h fun v H1 x M1 r1 st rv hx => ?_
 refine q2 σ H1 Δ M1 _ _ r1 (e.step st) hx fun u H2 y M2 r2 st2 ru hy => ?_
 replace hy := Ks hy
 obtain ⟨ds, hd, hy⟩ := hy
 replace hd : Mc x M2 ds := hd
 replace hy := ZO hy
 obtain ⟨ii, rfl, rfl, hy⟩ := hy
 obtain ⟨a, xs, rfl, h1, h2⟩ := hd.sq r2 (rv.step st2)
 exact ⟨a, xs, rfl, Q2.int ru, h1, fun p hp => k.dat (r2.new hp) ((st.trans st2).trans (Step.new hp)) (Dt.Vr r2 hp h2.reverse) hy⟩
theorem Tu (te ts : DTE) (Δ : DSt) (M : Mp) (Φ : DK) : ZaP te ts Δ M Φ = (te Δ M fun x M1 => ts Δ M1 fun y M2 => onK x M2 fun ds => onI y fun i => i = -1 ∧ Φ (.dat (.list ds.reverse)) M2) := propext Iff.rfl
end
end DL
namespace DL
open PySem PySem.Spec PyProof.Rows L2 PySem.W
section
variable {prog : Program} {w : World} {A : Around} {E : Value → Shared → Prop} {s : Shared}
theorem YV {it l : Addr} {i : Nat} {items : Array Value} {x : Value} {Q : Value → Shared → Prop} (hit : s.heap.IsTupleIter it l i) (hl : s.heap.IsTuple l items) (hx : items[i]? = some x)
  (hQ : ∀ h', h'.IsTupleIter it l (i + 1) → Heap.SameBut it s.heap h' → Q x { s with heap := h' }) : wpAny (model prog w) A (Builtin.SmallTypes.nextOf (.ref it)) Q E s := by
 obtain ⟨o, ho, hc, hd⟩ := id hit
 obtain ⟨ol, hol, _, nl, hdl⟩ := hl
 unfold Builtin.SmallTypes.nextOf
 refine wpAny_bind (wpAny_callSpecial?_slot (name := Str.ofString "__next__") hit.typeIs F.slot_tuple_iterator_next (wpAny_call_entry F.slot_tuple_iterator_next hit.typeIs F.entry_tuple_iterator_next ?_ (F.args_tuple_iterator_next_1 _)))
 show wpAny _ _ (field (.ref it) 0 >>= _) _ _ s
 refine wpAny_bind (wpAny_field ho hd (x := .ref l) rfl ?_)
 show wpAny _ _ (if (Value.ref l == Value.none) = true then _ else _) _ _ s
 rw [if_neg (show ¬ ((Value.ref l == Value.none) = true) from Bool.false_ne_true)]
 show wpAny _ _ (field (.ref it) 1 >>= _) _ _ s
 refine wpAny_bind (wpAny_field ho hd (x := .int i 0) rfl ?_)
 show wpAny _ _ (seqItems? (.ref l) >>= _) _ _ s
 refine wpAny_bind (wpAny_seqItems hol hdl ?_)
 simp only [Int.toNat_natCast, hx]
 refine wpAny_bind (wpAny_setField ho hd (by simp) (wpAny_pure ⟨x, rfl, wpAny_pure (hQ _ ?_ (Heap.SameBut.update ..))⟩))
 exact ⟨_, Heap.get?_update_self _ ho (Obj.isFreed_of_fields (Obj.data_mapFields hd _)), (Obj.cls_mapFields ..).trans hc, by rw [Obj.data_mapFields hd]; simp [rawInt]⟩
theorem Xv {it l : Addr} {i : Nat} {items : Array Value} {Q : Value → Shared → Prop} (hh : A.handled = none) (hit : s.heap.IsTupleIter it l i) (hl : s.heap.IsTuple l items) (hx : items[i]? = none)
  (hE : ∀ h' e, Heap.ExtBut it s.heap h' → (∃ o, h'.get? e = some o ∧ o.cls = .type "StopIteration") → E (.ref e) { s with heap := h' }) : wpAny (model prog w) A (Builtin.SmallTypes.nextOf (.ref it)) Q E s := by
 obtain ⟨o, ho, hc, hd⟩ := id hit
 obtain ⟨ol, hol, _, nl, hdl⟩ := hl
 unfold Builtin.SmallTypes.nextOf
 refine wpAny_bind (wpAny_callSpecial?_slot (name := Str.ofString "__next__") hit.typeIs F.slot_tuple_iterator_next (wpAny_call_entry F.slot_tuple_iterator_next hit.typeIs F.entry_tuple_iterator_next ?_ (F.args_tuple_iterator_next_1 _)))
 show wpAny _ _ (field (.ref it) 0 >>= _) _ _ s
 refine wpAny_bind (wpAny_field ho hd (x := .ref l) rfl ?_)
 show wpAny _ _ (if (Value.ref l == Value.none) = true then _ else _) _ _ s
 rw [if_neg (show ¬ ((Value.ref l == Value.none) = true) from Bool.false_ne_true)]
 show wpAny _ _ (field (.ref it) 1 >>= _) _ _ s
 refine wpAny_bind (wpAny_field ho hd (x := .int i 0) rfl ?_)
 show wpAny _ _ (seqItems? (.ref l) >>= _) _ _ s
 refine wpAny_bind (wpAny_seqItems hol hdl ?_)
 simp only [Int.toNat_natCast, hx]
 refine wpAny_bind (wpAny_rule (wpAny_bind (wpAny_setField ho hd (by simp) ?_)))
 show wpAny _ _ (newExc (.type "StopIteration") [] >>= _) _ _ _
 refine wpAny_bind ?_
 simp only [newExc, newTuple]
 refine wpAny_bind (wpAny_newObj_type ?_ (by size_fits))
 refine wpAny_bind (m := firstArgMember _ _) (wpAny_of_eq (a := Value.none) (by first | rfl | (simp only [firstArgMember]; rfl)) ?_)
 refine wpAny_newObj_type ?_ (by size_fits)
 simp only [raiseNew]
 refine wpAny_bind (wpAny_handled ?_)
 first | rw [show A.in1.handled = none from hh] | rw [hh]
 refine wpAny_bind (wpAny_pure (wpAny_throw ?_))
 exact hE _ _ (((Heap.SameBut.update ..).extBut.push _).push _) ⟨_, Heap.get?_push_size _ rfl, rfl⟩
end
section
variable {prog : Program} {w : World} {A : Around} {E : Value → Shared → Prop} {s : Shared}
end
section
variable {X : Cx} {pins : List (Addr × Obj)} {σ : L2.St} {H : Hp} {s : Shared} {h' : Heap}
theorem Cw {t' : Nat} {ch : List Addr} (I : L2.Inv X pins σ H s) (k : ∀ b o, b ∉ ch → s.heap.get? b = some o → h'.get? b = some o) (f : ∀ b ∈ ch, UQ X pins H b) : L2.Inv X pins σ H { s with heap := h', toks := t' } := by
 have nit : ∀ b u, H b = some u → b ∉ ch := fun b u e z => by rw [(f b z).1] at e; cases e
 refine I.step (g' := s.gens) (d' := s.drawn) (ch := ch) (fun b hb => ?_) (fun b o _ _ hc e _ => k b o hc e) (fun b o _ _ hc e _ => ⟨o.slots, k b o hc e⟩) (fun _ _ _ _ n => n)
  (fun b o hc e => ⟨o, k b o hc e⟩) (fun _ _ e => e) (fun _ _ _ e => e) (fun b ps e => ⟨#[], by rw [e]; simp⟩) (fun m hm => ?_) (fun b u e => ?_) I.bare
 ·obtain ⟨_, f1, _, f3, f4, f5⟩ := f b hb
  exact ⟨f3, f1, f4, f5⟩
 ·obtain ⟨o, es, ep, ho, r⟩ := hm
  exact ⟨o, es, ep, k _ o (fun z => (f _ z).2.1 rfl) ho, r⟩
 ·refine (I.hok b u e).Rg (fun c v hc q => k c v ?_ q) (fun _ q => q) fun _ _ q => q
  rcases hc with z | z
  ·rw [z]; exact nit b u e
  ·exact nit c _ z
end
noncomputable def Ite (K : PySem.W.Frag) (a : Addr) : It :=
 ⟨fun i H => ∃ xs x, SqT K H a xs ∧ xs[i]? = some x, fun i H y H' => ∃ T x, (∀ xs, SqT K H a xs → xs[i]? = some x) ∧ H T = none ∧ y = .ref T ∧ H' = upd H T (.tup [.int i, x]), fun i H => ∃ xs, SqT K H a xs ∧ xs.length ≤ i⟩
section
variable {X : Cx}
def Zf8 (K : PySem.W.Frag) (ta : TA) : TI := fun σ H R => ta σ H fun vs H1 => ∃ a, vs = [.ref a] ∧ (∃ xs, SqT K H1 a xs) ∧ R (Ite K a) H1
noncomputable def ZdO (ds : List PyData) : List PyData := ds.mapIdx fun i d => .tuple [.int i, d]
def ZgR (ta : DTA) : Yu := fun Δ M Ψ => ta Δ M fun xs M1 => on1 xs fun x => onT x fun ds => Ψ (ZdO ds) M1
end
theorem U7 {P : Program} {w : World} {K : PySem.W.Frag} {mg : Str → Option Value} {base : Heap} {k : Nat} {f : Addr} {fd : FuncData} {ps : List Str} {S : DSp} (h : ∀ xs M Φ, ¬ S xs M Φ) : ZD P w K mg base CX0 k f fd ps (lift K S) :=
 ⟨fun vs H Q E z => by obtain ⟨xs, M, Φ, _, _, z, _⟩ := z; exact absurd z (h _ _ _), fun A outer s H args us vs Q E _ _ _ _ z => by obtain ⟨xs, M, Φ, _, _, z, _⟩ := z; exact absurd z (h _ _ _)⟩
end DL
namespace DL
open PySem PySem.Spec PyProof.Rows L2 PySem.W
section
variable {prog : Program} {w : World} {A : Around} {E : Value → Shared → Prop} {s : Shared}
theorem Ga {it t : Addr} {items : Array Value} (hne : t ≠ it) : ∀ (n i : Nat) (s : Shared) (Q : List Value → Shared → Prop), s.heap.IsListIter it t i → s.heap.IsList t items → i + n ≤ items.size →
  (∀ h', h'.IsListIter it t (i + n) → Heap.SameBut it s.heap h' → Q ((items.toList.drop i).take n) { s with heap := h' }) → wpAny (model prog w) A (draw (.ref it) n) Q E s
 | 0, i, s, Q, hit, _, _, hQ => by
  show wpAny _ _ (pure []) Q E s
  exact wpAny_pure (by simpa using hQ s.heap hit (Heap.SameBut.refl ..))
 | n + 1, i, s, Q, hit, ht, hle, hQ => by
  have hlt : i < items.size := by omega
  show wpAny _ _ (pyNext (.ref it) >>= _) Q E s
  refine wpAny_bind (wpAny_pyNext_list_item hit ht (x := items[i]) (by simp [hlt]) fun h₁ hit₁ hs₁ => ?_)
  refine wpAny_bind (wpAny_holding (Ga hne n (i + 1) _ _ hit₁ (ht.extBut hs₁.extBut hne) (by omega) fun h₂ hit₂ hs₂ => wpAny_pure ?_))
  have hd : items.toList.drop i = items[i] :: items.toList.drop (i + 1) := by simp [List.drop_eq_getElem_cons, hlt]
  have := hQ h₂ (by rw [show i + (n + 1) = i + 1 + n by omega]; exact hit₂) (hs₁.trans hs₂)
  rw [hd, List.take_succ_cons] at this
  exact this
theorem Xr {t : Addr} {items : Array Value} {Q : List Value → Shared → Prop} (hh : A.handled = none) (ht : s.heap.IsList t items)
  (hQ : ∀ h', Heap.ExtBut s.heap.objs.size s.heap h' → Q items.toList { s with heap := h' }) : wpAny (model prog w) A (unpackItems (.ref t) items.size none) Q E s := by
 have hlt : t ≠ s.heap.objs.size := by obtain ⟨o, ho, _⟩ := ht; exact Nat.ne_of_lt (Heap.lt_size ho)
 unfold unpackItems
 refine wpAny_bind ?_
 ·unfold notIterableAtAll
  refine wpAny_bind (wpAny_specialOf ht.typeIs F.slot_list_iter.lookup ?_)
  refine wpAny_pure ?_
  simp only [Bool.false_eq_true, if_false]
  refine wpAny_bind (wpAny_holding (wpAny_pyIter_list ht ?_))
  refine wpAny_bind (wpAny_holding (Ga hlt items.size 0 _ _ ⟨_, Heap.get?_push_size _ rfl, rfl, rfl⟩ (ht.push _) (by omega) fun h₁ hit₁ hs₁ => ?_))
  have hall : List.take items.size (List.drop 0 items.toList) = items.toList := by
   rw [List.drop_zero]; exact List.take_of_length_le (by simp)
  rw [hall]
  rw [if_neg (by simp)]
  have ht₁ : h₁.IsList t items := (ht.push _).extBut hs₁.extBut hlt
  refine wpAny_bind (wpAny_holding (wpAny_pyNext_list_end hh hit₁ ht₁ (by simp) fun h₂ he₂ => ?_))
  simp only [Option.isSome_none, Bool.false_eq_true, if_false]
  refine wpAny_pure (hQ h₂ fun b o hb e => he₂ b o hb (hs₁.extBut b o hb (Heap.get?_push_of_some _ e)))
theorem Y6 {env : Env} {elts : List Expr} {x1} {pos : Pos} {t : Addr} {items : Array Value} {Q : Unit → Shared → Prop} (hh : A.handled = none) (ht : s.heap.IsList t items)
  (hn : (assignEach elts env).length = items.size) (hstar : (assignEach elts env).findIdx? (·.1) = none)
  (h : ∀ h', Heap.ExtBut s.heap.objs.size s.heap h' → wpAny (model prog w) A (assignInOrder ((assignEach elts env).map (·.2)) items.toList) Q E { s with heap := h' }) :
  wpAny (model prog w) A (assign (.Tuple elts x1 pos) env (.ref t)) Q E s := by
 rw [assign_Tuple]
 refine wpAny_bind (wpAny_standAt ?_)
 unfold unpack
 rw [hn, hstar]
 exact wpAny_bind (wpAny_holding (Xr hh ht h))
end
section
variable {X : Cx} {pos : Pos}
theorem ZbN {es : List Expr} {k : Nat} {t : TGs} {n : Nat} (hc : X.calm = true) (h : PGs X es t)
  (hn : autoParam ((assignEach es X.env).length = n) zz3._auto_1) (hst : autoParam ((assignEach es X.env).findIdx? (·.1) = none) zz3._auto_1) : PG X (.Tuple es k pos) (fun v σ H Q => ∃ a xs, v = .ref a ∧ SqL X.K H a xs ∧ xs.length = n ∧ t xs σ H Q) := by
 intro pins s σ H v u Q I r hw
 obtain ⟨a, xs, e1, hq, hl, hw⟩ := hw
 subst e1
 cases r
 obtain ⟨its, rv, ht, hz⟩ := I.list hq
 refine Y6 (I.ok.hd hc) ht.isList (by simp [hn, ← hl, rv.length]) hst fun h' hx => ?_
 have I1 : L2.Inv X pins σ H { s with heap := h' } := I.kept (t' := s.toks) fun b o e => hx b o (Nat.ne_of_lt (Heap.lt_size e)) e
 exact h pins _ σ H xs _ Q I1 (by simpa using rv) hw
def Zb7 (n : Nat) (t : EM) : DTG := fun x Δ M Φ => onL x fun ds => Me n ds fun xs => t xs Δ M Φ
theorem Gn {es : List Expr} {k : Nat} {t : EM} {n : Nat} (hc : X.calm = true) (h : DGs X es t) (hn : autoParam ((assignEach es X.env).length = n) zz3._auto_1) (hst : autoParam ((assignEach es X.env).findIdx? (·.1) = none) zz3._auto_1) : DG X (.Tuple es k pos) (Zb7 n t) := by
 obtain ⟨t1, p1, q1⟩ := h
 refine ⟨_, ZbN hc p1 hn hst, fun v σ H x Δ M Φ Q r e rv h k => ?_⟩
 replace h := K8 h
 obtain ⟨ds, rfl, h⟩ := h
 replace h := BI h
 obtain ⟨hl, h⟩ := h
 obtain ⟨a, xs, rfl, h1, h2⟩ := rv.lst
 exact ⟨a, xs, rfl, h1.sq, by rw [h2.length]; exact hl, q1 xs σ H _ Δ M Φ Q r e h2.Tg h k⟩
theorem RE (n : Nat) (t : EM) (x : DV) (Δ : DSt) (M : Mp) (Φ : DSt → Mp → Prop) : Zb7 n t x Δ M Φ = (onL x fun ds => Me n ds fun xs => t xs Δ M Φ) := propext Iff.rfl
end
end DL
namespace DL
open PySem PySem.Spec PyProof.Rows L2 PySem.W
section
variable {X : Cx}
theorem Nf (hu : X.A.units < cLine) : OpR X (compareOp .NotEq) (fun x y H Q => ∃ a b xs, x = .ref a ∧ y = .ref b ∧ SqL X.K H a xs ∧ SqL X.K H b [] ∧ Q (.bl (!xs.isEmpty)) H) := by
 intro pins s σ H x y v u Q I rx ry h
 obtain ⟨a, b, xs, rfl, rfl, h1, h2, q⟩ := h
 cases rx
 cases ry
 obtain ⟨its, r, p, _⟩ := I.list h1
 obtain ⟨jts, r2, p2, _⟩ := I.list h2
 cases r2
 have hl := r.length
 cases xs with
 | nil =>
  have e : its.toArray.size = ([] : List Value).toArray.size := by rw [List.size_toArray, List.size_toArray]; exact hl.symm
  refine PySem.SeqAt.RcNeAt.lists (e := fun _ => true) p.isList p2.isList e hu (fun j h1 h2 => absurd h2 (Nat.not_lt_zero _)) _ _ _ _ ⟨.bl _, H, I, ?_, q⟩
  show Value.bool (!(List.range its.toArray.size).all fun _ => true) = _
  rw [e]
  rfl
 | cons x xs =>
  refine PySem.SeqAt.RcNeAt.lists_lengths p.isList p2.isList ?_ hu _ _ _ _ ⟨.bl _, H, I, rfl, q⟩
  rw [List.size_toArray, ← hl]
  rfl
def FV : D2 := fun x y M Φ => onK x M fun ds => onK y M fun es => es = [] ∧ Φ (.dat (.bool (!ds.isEmpty))) M
theorem Nd {k : Nat} (hr : Xw k X.A) : OpD X (compareOp .NotEq) FV := by
 refine ⟨_, Nf (by have := hr.un; omega), fun v u H x y M Φ Q r rv ru h k => ?_⟩
 replace h := Ks h
 obtain ⟨ds, hx, h⟩ := h
 replace h := Ks h
 obtain ⟨es, hy, rfl, q⟩ := h
 replace hx : Mc x M ds := hx
 replace hy : Mc y M [] := hy
 obtain ⟨a, xs, rfl, h1, h2⟩ := hx.sq r rv
 obtain ⟨b, ys, rfl, h3, h4⟩ := hy.sq r ru
 cases h4
 refine ⟨a, b, xs, rfl, rfl, h1, h3, ?_⟩
 have e : xs.isEmpty = ds.isEmpty := by cases h2 <;> rfl
 rw [e]
 exact k.dat r Step.refl (Dt.bl _) q
def Ht : D2 := fun x y M Φ => onK x M fun ds => onK y M fun es => ds.length + es.length ≤ sizeLine ∧ ∀ p, M p = none → Φ (.own p) (Z8 M p (.lst (ds ++ es)))
theorem Ng : OpD X (binaryOp .Add) Ht := by
 refine ⟨_, Dg, fun v u H x y M Φ Q r rv ru h k => ?_⟩
 replace h := Ks h
 obtain ⟨ds, hx, h⟩ := h
 replace h := Ks h
 obtain ⟨es, hy, hz, q⟩ := h
 replace hx : Mc x M ds := hx
 replace hy : Mc y M es := hy
 obtain ⟨a, xs, rfl, h1, h2⟩ := hx.sq r rv
 obtain ⟨b, ys, rfl, h3, h4⟩ := hy.sq r ru
 refine ⟨a, b, xs, ys, rfl, rfl, h1, h3, by rw [h2.length, h4.length]; exact hz, fun p hp => ?_⟩
 exact k _ _ (.own p) _ (r.Xl (Step.Xg hp) (h2.append h4)) (Step.Xg hp) rfl (q p (r.tracked hp))
def Sy : D1 := fun xs M Φ => on1 xs fun x => onI x fun i => Φ (.dat (.bool (i != 0))) M
theorem Lh (x y : DV) (M : Mp) (Φ : DK) : FV x y M Φ = (onK x M fun ds => onK y M fun es => es = [] ∧ Φ (.dat (.bool (!ds.isEmpty))) M) := propext Iff.rfl
theorem Hd (x y : DV) (M : Mp) (Φ : DK) : Ht x y M Φ = (onK x M fun ds => onK y M fun es => ds.length + es.length ≤ sizeLine ∧ ∀ p, M p = none → Φ (.own p) (Z8 M p (.lst (ds ++ es)))) := propext Iff.rfl
end
noncomputable def isS (h : PyData) (s : Str) : Bool := match h with | .str t => decide (t = s) | _ => false
theorem Up {h : PyData} {s : Str} {P : Bool → Prop} (hl : h.canLay0 = true) (hs : (PyData.str s).canLay0 = true) (p : P (isS h s)) : eqD h (.str s) P := by
 cases h with
 | str t => exact p
 | dict _ => simp [PyData.canLay0] at hl
 | _ =>
  refine ⟨?_, ?_⟩
  ·unfold Zbv
   rw [hl, hs]
   simp [PyData.depth]
  ·simp only [PyData.eqv]
   exact p
end DL
namespace DL
open PySem PySem.Spec PyProof.Rows L2 PySem.W PySem.SeqAt PySem.MeetsSeq
theorem Je (l : Addr) (es : Array DictEntry) (n : Nat) (dd : Option Addr) (sl : Array (Option Value)) (b : Str) (u : Tok) :
  Meets (Builtin.«dict.__eq__» ⟨[.ref l, .str b u], []⟩) (fun _ R s => s.heap.get? l = some { cls := .type "dict", dict := dd, data := .dict es n, slots := sl } ∧ R (.ok (.ret .notImplemented)) s) :=
 .of_wp fun prog w A R s h => by
  obtain ⟨hp, g, d, tk, os⟩ := s; obtain ⟨hl, h⟩ := h
  have f1 := F.sub_str_dict
  wp_walk using wpAny_loadPart' hl
  exact ⟨_, rfl, h⟩
theorem Jg (b : Str) (u : Tok) (l : Addr) (c : Value) (es : Array DictEntry) (n : Nat) (dd : Option Addr) (sl : Array (Option Value)) :
  Meets (Builtin.«str.__eq__» ⟨[.str b u, .ref l], []⟩) (fun _ R s => s.heap.get? l = some { cls := c, dict := dd, data := .dict es n, slots := sl } ∧ R (.ok (.ret .notImplemented)) s) :=
 .of_wp fun prog w A R s h => by obtain ⟨hp, g, d, tk, os⟩ := s; obtain ⟨hl, h⟩ := h; wp_walk using wpAny_loadPart' hl, wpAny_load hl; exact ⟨_, rfl, h⟩
section
variable {A : Around} {s : Shared}
def Zdt (h : Heap) (l : Addr) : Prop := ∃ (o : Obj) (es : Array DictEntry) (n : Nat), h.get? l = some o ∧ o.cls = .type "dict" ∧ o.data = .dict es n
theorem Bp {l : Addr} (b : Str) (u : Tok) (hl : Zdt s.heap l) (hu : A.units < cLine) : RcAt A s (.str b u) (.ref l) false := fun prog w E Q h => by
 obtain ⟨⟨cls, dd, data, sl⟩, es, n, ho, hc, hd⟩ := hl
 simp only at hc hd
 subst hc hd
 exact rc_eq_decline_or (k := false) (typeIs_str s b u) ⟨_, ho, rfl⟩ (by decide) F.sub_dict_str F.slot_str_eq F.slot_dict_eq_refl
  (fun _ hq => call_meets F.slot_str_eq (typeIs_str s b u) F.entry_str_eq (F.args_str_eq_2 _ _) (Jg b u l (.type "dict") es n dd sl) ⟨ho, hq⟩)
  (fun _ hq => call_meets F.slot_dict_eq_refl ⟨_, ho, rfl⟩ F.entry_dict_eq (F.args_dict_eq_2 _ _) (Je l es n dd sl b u) ⟨ho, hq⟩)
  (fun _ hq => wpAny_of_eq (rfl : isSame (.str b u) (.ref l) = pure false) hq) (.inr hu) h
theorem Cd {l : Addr} (b : Str) (u : Tok) (hl : Zdt s.heap l) (hu : A.units < cLine) : EqAt A s (.str b u) (.ref l) false := fun prog w E Q h => by
 unfold eqBool
 refine wpAny_holding ?_
 refine wpAny_ite_split (fun hab => absurd (eq_of_beq hab) nofun) (fun _ => ?_)
 exact wpAny_bind (Bp b u hl hu prog w E _ (wpAny_truthy_bool h))
end
section
variable {X : Cx}
inductive Bs (h : Heap) (b : Bool) (t : Str) : Value → Prop
 | non : b = false → Bs h b t .none
 | bl (k : Bool) : b = false → Bs h b t (.bool k)
 | int (i : Int) (u : Tok) : b = false → Bs h b t (.int i u)
 | str (x : Str) (u : Tok) : b = decide (x = t) → Bs h b t (.str x u)
 | tup {a : Addr} {items : Array Value} : h.IsTuple a items → b = false → Bs h b t (.ref a)
 | lst {a : Addr} {items : Array Value} : h.IsList a items → b = false → Bs h b t (.ref a)
 | dic {a : Addr} : Zdt h a → b = false → Bs h b t (.ref a)
theorem Bs.eq {A : Around} {s : Shared} {b : Bool} {t : Str} {v : Value} (u : Tok) (h : Bs s.heap b t v) (hu : A.units < cLine) : EqAt A s (.str t u) v b := by
 cases h with
 | non e => rw [e]; exact EqAt.str_none t u
 | bl k e => rw [e]; exact EqAt.str_bool t u k
 | int i w e => rw [e]; exact EqAt.str_int t u i w
 | str x w e =>
  have e2 : b = (t == x) := by rw [e, Bool.beq_eq_decide_eq, decide_eq_decide]; exact eq_comm
  rw [e2]
  exact EqAt.str_str t u x w
 | tup p e => rw [e]; exact EqAt.str_tuple t u p hu
 | lst p e => rw [e]; exact EqAt.str_list t u p hu
 | dic p e => rw [e]; exact Cd t u p hu
def ZgE : D2 := fun x y M Φ => onD x fun d => onS y fun t => Φ (.dat (.bool (isS d t))) M
def ZgA : D2 := fun x y M Φ => onD x fun d => onT y fun ds => ∃ ts : List Str, ds = ts.map PyData.str ∧ Φ (.dat (.bool (ts.any (isS d)))) M
end
end DL
namespace DL
open PySem PySem.Spec PyProof.Rows L2 PySem.W
section
variable {X : Cx} {pos : Pos}
def Ze1 (tk0 tk1 tk2 tk3 tk4 tk5 tv0 tv1 tv2 tv3 tv4 tv5 : DTE) : DTE := fun Δ M Φ => tk0 Δ M fun x0 M1 => tv0 Δ M1 fun y0 M2 => tk1 Δ M2 fun x1 M3 => tv1 Δ M3 fun y1 M4 => tk2 Δ M4 fun x2 M5 => tv2 Δ M5 fun y2 M6 => tk3 Δ M6 fun x3 M7 => tv3 Δ M7 fun y3 M8 => tk4 Δ M8 fun x4 M9 => tv4 Δ M9 fun y4 M10 => tk5 Δ M10 fun x5 M11 => tv5 Δ M11 fun y5 M12 => onS x0 fun s0 => onD y0 fun d0 => onS x1 fun s1 => onD y1 fun d1 => onS x2 fun s2 => onD y2 fun d2 => onS x3 fun s3 => onD y3 fun d3 => onS x4 fun s4 => onD y4 fun d4 => onS x5 fun s5 => onD y5 fun d5 => ([s0, s1, s2, s3, s4, s5] : List Str).Nodup ∧ ∀ p, M12 p = none → Φ (.own p) (Z8 M12 p (.dkv [(Sum.inr s0, d0), (Sum.inr s1, d1), (Sum.inr s2, d2), (Sum.inr s3, d3), (Sum.inr s4, d4), (Sum.inr s5, d5)]))
def ZgG : D2 := fun x y M Φ => onO x fun l => onI y fun i => XE (M l) fun ds => (0 ≤ i ∧ i < 2 ^ 63 ∧ ds.length * i.toNat ≤ sizeLine) ∧ Φ (.dat (.list (List.replicate i.toNat ds).flatten)) M
end
end DL
namespace DL
open PySem PySem.Spec PyProof.Rows L2 PySem.W PySem.SeqAt PySem.MeetsSeq
section
variable {X : Cx}
def Zfy : D2 := fun x y M Φ => onT x fun ds => onI y fun k => (2 ≤ k ∧ k ≤ 1000 ∧ 1 ≤ ds.length ∧ ds.length ≤ 1000) ∧ Φ (.dat (.tuple (List.replicate k.toNat ds).flatten)) M
theorem Mm : OpR X (binaryOp .Add) (fun x y H Q => ∃ a b xs ys, x = .ref a ∧ y = .ref b ∧ SqT X.K H a xs ∧ SqT X.K H b ys ∧ xs.length + ys.length ≤ sizeLine ∧
  (xs = [] → Q (.ref b) H) ∧ (xs ≠ [] → ys = [] → Q (.ref a) H) ∧ (xs ≠ [] → ys ≠ [] → ∀ p, H p = none → Q (.ref p) (upd H p (.tup (xs ++ ys))))) := by
 intro pins s σ H x y v u Q I rx ry h
 obtain ⟨a, b, xs, ys, rfl, rfl, ha, hb, hz, q0, q1, q2⟩ := h
 by_cases hx : xs = []
 ·cases rx
  cases ry
  obtain ⟨its, r1, p1, _⟩ := I.tuple ha
  obtain ⟨its2, r2, p2, _⟩ := I.tuple hb
  obtain ⟨⟨cls, dd, data, sl⟩, ho, hc, n, hd⟩ := id p1
  obtain ⟨⟨cls2, dd2, data2, sl2⟩, ho2, hc2, n2, hd2⟩ := id p2
  simp only at hc hd hc2 hd2
  subst hc hd hc2 hd2
  have he : its = [] := r1.UK.mpr hx
  exact concat_meets ⟨_, ho, rfl⟩ ⟨_, ho2, rfl⟩ noFill_tuple_add seq_tuple_add PySem.F.slot_tuple_add PySem.F.entry_tuple_add (PySem.F.args_tuple_add_2 _ _)
   (tuple_addW0 a b its.toArray its2.toArray n n2 dd dd2 sl sl2 (by rw [he]; rfl)) ⟨ho, ho2, ⟨.ref b, H, I, rfl, q0 hx⟩⟩
 ·exact Tq pins s σ H _ _ v u Q I rx ry ⟨a, b, xs, ys, rfl, rfl, ha, hb, hx, hz, q1 hx, q2 hx⟩
def Ft : D2 := fun x y M Φ => onT x fun ds => onT y fun es => ds.length + es.length ≤ sizeLine ∧ Φ (.dat (.tuple (ds ++ es))) M
theorem OA : OpD X (binaryOp .Add) Ft := by
 refine ⟨_, Mm, fun v u H x y M Φ Q r rv ru h k => ?_⟩
 replace h := YE h
 obtain ⟨ds, rfl, h⟩ := h
 replace h := YE h
 obtain ⟨es, rfl, hz, q⟩ := h
 obtain ⟨a, xs, rfl, h1, h2⟩ := id rv.tup
 obtain ⟨b, ys, rfl, h3, h4⟩ := id ru.tup
 refine ⟨a, b, xs, ys, rfl, rfl, h1.sq, h3.sq, by rw [h2.length, h4.length]; exact hz, fun e => ?_, fun e e2 => ?_, fun e e2 p hp => ?_⟩
 ·subst e
  cases h2
  exact k _ _ _ _ r Step.refl ru q
 ·subst e2
  cases h4
  rw [List.append_nil] at q
  exact k _ _ _ _ r Step.refl rv q
 ·exact k.dat (r.new hp) (Step.new hp) (Dt.XQ r hp (h2.append h4)) q
theorem LD (x y : DV) (M : Mp) (Φ : DK) : Ft x y M Φ = (onT x fun ds => onT y fun es => ds.length + es.length ≤ sizeLine ∧ Φ (.dat (.tuple (ds ++ es))) M) := propext Iff.rfl
end
end DL
namespace DL
open PySem PySem.Spec PyProof.Rows L2 PySem.W
noncomputable def Itz (K : PySem.W.Frag) (a b : Addr) : It :=
  ⟨fun i H => ∃ xs ys x y, SqL K H a xs ∧ xs[i]? = some x ∧ SqL K H b ys ∧ ys[i]? = some y,
   fun i H v H' => ∃ T x y, (∀ xs, SqL K H a xs → xs[i]? = some x) ∧ (∀ ys, SqL K H b ys → ys[i]? = some y) ∧ H T = none ∧ v = .ref T ∧ H' = upd H T (.tup [x, y]),
   fun i H => ∃ xs ys, SqL K H a xs ∧ SqL K H b ys ∧ (xs.length ≤ i ∨ ys.length ≤ i)⟩
def Zgq (a b : Addr) (n : Nat) (i : Nat) (h : Heap) : Prop :=
 IsZip h (n + 4) (n + 2) (n + 3) .none ∧ IsPair h (n + 2) (.ref n) (.ref (n + 1)) ∧ (∃ u v, IsPair h (n + 3) u v) ∧ h.IsListIter n a i ∧ h.IsListIter (n + 1) b i
theorem zn {n p q : Nat} (h : p ≠ q) : n + p ≠ n + q := fun e => h (Nat.add_left_cancel e)
theorem zn0 {n p : Nat} (h : p ≠ 0) : n + p ≠ n := fun e => h (by omega)
section
variable {X : Cx}
def Zg3 (K : PySem.W.Frag) (ta : TA) : TI := fun σ H R => ta σ H fun vs H1 => ∃ a b, vs = [.ref a, .ref b] ∧ (∃ xs, SqL K H1 a xs) ∧ (∃ ys, SqL K H1 b ys) ∧ R (Itz K a b) H1
theorem boot_zip : bootBuiltins "zip" = some (.type "zip") := by decide +kernel
noncomputable def OE (as bs : List PyData) : List PyData := List.zipWith (fun a b => .tuple [a, b]) as bs
theorem OG {as bs : List PyData} {i : Nat} {a b : PyData} (h : as[i]? = some a) (k : bs[i]? = some b) : (OE as bs)[i]? = some (.tuple [a, b]) := by
 unfold OE
 rw [List.getElem?_zipWith, h, k]
def ZgY (ta : DTA) : Yu := fun Δ M Ψ => ta Δ M fun xs M1 => on2 xs fun x y => onL x fun as => onL y fun bs => Ψ (OE as bs) M1
end
end DL
namespace DL
open PySem PySem.Spec PyProof.Rows L2 PySem.W
def Rsg (l : List Nat) : Prop := l.Pairwise (· < ·)
theorem Rsg.lt {l : List Nat} (h : Rsg l) {i j u v : Nat} (hi : l[i]? = some u) (hj : l[j]? = some v) (hij : i < j) : u < v := by
 obtain ⟨h1, rfl⟩ := List.getElem?_eq_some_iff.mp hi
 obtain ⟨h2, rfl⟩ := List.getElem?_eq_some_iff.mp hj
 exact (List.pairwise_iff_getElem.mp h) i j h1 h2 hij
def Spl (l : List Nat) (j r : Nat) : Prop := (∀ k v, k < r → l[k]? = some v → v < j) ∧ (∀ k v, r ≤ k → l[k]? = some v → j ≤ v) ∧ r ≤ l.length
theorem WZ {xs : Array Nat} (h : Rsg xs.toList) (j : Nat) : ∀ fuel lo hi, hi - lo ≤ fuel → lo ≤ hi → hi ≤ xs.size → (∀ k v, k < lo → xs.toList[k]? = some v → v < j) → (∀ k v, hi ≤ k → xs.toList[k]? = some v → j ≤ v) → Spl xs.toList j (SetTable.below.go xs j fuel lo hi)
 | 0, lo, hi, hf, hl, hs, h1, h2 => by
  have e : hi = lo := by omega
  subst e
  exact ⟨h1, h2, by rw [Array.length_toList]; exact hs⟩
 | fuel + 1, lo, hi, hf, hl, hs, h1, h2 => by
  unfold SetTable.below.go
  by_cases hlt : lo < hi
  ·rw [if_pos hlt]
   dsimp only
   have hm : (lo + hi) / 2 < xs.size := by omega
   have hg : xs.toList[(lo + hi) / 2]? = some (xs.getD ((lo + hi) / 2) j) := by
    rw [Array.getElem?_toList, Array.getElem?_eq_getElem hm]
    simp [Array.getD, hm]
   by_cases hc : xs.getD ((lo + hi) / 2) j < j
   ·rw [if_pos hc]
    refine WZ h j fuel _ _ (by omega) (by omega) hs (fun k v hk hv => ?_) h2
    by_cases e : k = (lo + hi) / 2
    ·rw [e, hg] at hv
     cases hv
     exact hc
    ·exact Nat.lt_trans (h.lt hv hg (by omega)) hc
   ·rw [if_neg hc]
    refine WZ h j fuel _ _ (by omega) (by omega) (by omega) h1 (fun k v hk hv => ?_)
    by_cases e : k = (lo + hi) / 2
    ·rw [e, hg] at hv
     cases hv
     omega
    ·have := h.lt hg hv (by omega)
     omega
  ·rw [if_neg hlt]
   have e : hi = lo := by omega
   subst e
   exact ⟨h1, h2, by rw [Array.length_toList]; exact hs⟩
theorem KJ {xs : Array Nat} (h : Rsg xs.toList) (j : Nat) : Spl xs.toList j (SetTable.below xs j) := by
 unfold SetTable.below
 exact WZ h j _ _ _ (by omega) (by omega) (Nat.le_refl _) (fun k v hk => absurd hk (by omega)) fun k v hk hv => by
  have := (List.getElem?_eq_some_iff.mp hv).1
  rw [Array.length_toList] at this
  omega
theorem EG {xs : Array Nat} (h : Rsg xs.toList) {j : Nat} (hn : xs[SetTable.below xs j]? ≠ some j) : Rsg (SetTable.insertAt xs (SetTable.below xs j) j).toList := by
 obtain ⟨h1, h2, h3⟩ := KJ h j
 rw [SetTable.toList_insertAt]
 have hd : ∀ v ∈ xs.toList.drop (SetTable.below xs j), j < v := fun v hv => by
  obtain ⟨k, hk⟩ := List.mem_iff_getElem?.mp hv
  rw [List.getElem?_drop] at hk
  have l1 := h2 _ v (Nat.le_add_right _ k) hk
  by_cases e : k = 0
  ·rw [e, Nat.add_zero, Array.getElem?_toList] at hk
   rcases Nat.lt_or_eq_of_le l1 with z | z
   ·exact z
   ·rw [← z] at hk
    exact absurd hk hn
  ·have hb := (List.getElem?_eq_some_iff.mp hk).1
   have := h.lt (List.getElem?_eq_getElem (show SetTable.below xs j < xs.toList.length by omega)) hk (by omega)
   have := h2 _ _ (Nat.le_refl _) (List.getElem?_eq_getElem (show SetTable.below xs j < xs.toList.length by omega))
   omega
 have ht : ∀ u ∈ xs.toList.take (SetTable.below xs j), u < j := fun u hu => by
  obtain ⟨k, hk⟩ := List.mem_iff_getElem?.mp hu
  rw [List.getElem?_take] at hk
  split at hk
  ·exact h1 k u (by assumption) hk
  ·cases hk
 refine List.pairwise_append.mpr ⟨h.sublist (List.take_sublist _ _), List.pairwise_cons.mpr ⟨hd, h.sublist (List.drop_sublist _ _)⟩, fun u hu v hv => ?_⟩
 rcases List.mem_cons.mp hv with rfl | hv
 ·exact ht u hu
 ·exact Nat.lt_trans (ht u hu) (hd v hv)
structure TOk (bt : Bool) (t : SetTable) : Prop where
 led : t.led = !bt
 dm : t.dummies = #[]
 up : t.plain = true → Rsg t.place.toList
theorem Sl {t : SetTable} (h : t.dummies = #[]) (j : Nat) : t.slot j ≠ .dummy := by
 unfold SetTable.slot SetTable.has
 rw [h]
 dsimp only
 split
 ·exact fun e => nomatch e
 ·simp
theorem X2 {t : SetTable} {f : Nat → Int} {h : Int} (hd : t.dummies = #[]) : ∀ (fuel : Nat) (p : SetTable.Probe), p.dummy = none → ∀ j d, SetTable.probe.go t f h fuel p = some (.empty j d) → d = none ∧ t.slot j = .empty
 | 0, p, _, j, d, e => by unfold SetTable.probe.go at e; cases e
 | fuel + 1, p, hp, j, d, e => by
  unfold SetTable.probe.go at e
  cases q : t.slot p.j with
  | empty =>
   rw [q] at e
   cases e
   exact ⟨hp, q⟩
  | dummy => exact absurd q (Sl hd _)
  | live i =>
   rw [q] at e
   dsimp only at e
   split at e
   ·cases e
   ·refine X2 hd fuel _ ?_ j d e
    unfold SetTable.advance
    split
    ·exact hp
    ·exact hp
theorem Nk {t : SetTable} {h : Int} {j : Nat} {b : Bool} (hd : t.dummies = #[]) (e : t.freeSlot h = some (j, b)) : t.place[SetTable.below t.place j]? ≠ some j := by
 unfold SetTable.freeSlot at e
 split at e
 ·rename_i j' d' q
  unfold SetTable.probe at q
  obtain ⟨rfl, hs⟩ := X2 hd _ _ rfl _ _ q
  simp only [Option.getD_none, Option.isSome_none, Option.some.injEq, Prod.mk.injEq] at e
  obtain ⟨rfl, _⟩ := e
  unfold SetTable.slot at hs
  dsimp only at hs
  intro z
  rw [if_pos (by rw [z]; simp)] at hs
  cases hs
 ·cases e
theorem TOk.N8 {bt : Bool} {t : SetTable} (h : TOk bt t) (n : Nat) : TOk bt (t.standIn n) := ⟨h.led, rfl, fun e => by simp [SetTable.standIn] at e⟩
theorem TOk.new {bt : Bool} {t : SetTable} (h : TOk bt t) (es : Array (Int × Value)) (k : Int) (x : Value) : TOk bt (layNew t es k x).2.1 := by
 unfold layNew
 split
 ·rename_i sl wd e
  have hn := Nk h.dm e
  have hp : TOk bt (t.put sl).1 := by
   unfold SetTable.put
   refine ⟨h.led, ?_, fun e => EG (h.up e) hn⟩
   show (if SetTable.has t.dummies sl = true then _ else t.dummies) = #[]
   rw [h.dm]
   split
   ·simp [SetTable.eraseAt]
   ·rfl
  dsimp only
  unfold SetTable.orStandIn
  split
  ·exact hp
  ·exact hp.N8 _
 ·exact h.N8 _
theorem S7 (f : Nat → Option Nat) (n : Nat) : Rsg ((((List.range n).filterMap fun j => (f j).map (j, ·)).map (·.1))) := by
 have h : (((List.range n).filterMap fun j => (f j).map (j, ·)).map (·.1)).Sublist (List.range n) := by
  induction (List.range n) with
  | nil => exact .slnil
  | cons a l ih =>
   rw [List.filterMap_cons]
   cases f a with
   | none => exact ih.cons a
   | some v => exact ih.cons₂ a
 exact List.pairwise_lt_range.sublist h
theorem TOk.re {bt : Bool} {t : SetTable} (h : TOk bt t) (es : Array (Int × Value)) (n : Nat) : TOk bt (relayAll t es n).2.1 := by
 unfold relayAll
 split
 ·rename_i t' order e
  dsimp only
  split
  ·unfold SetTable.relaid SetTable.laid at e
   cases q : SetTable.layClean (SetTable.sizeAbove n - 1) (es.map (·.1)) with
   | none => rw [q] at e; cases e
   | some ow =>
    rw [q] at e
    simp only [Option.pure_def, Option.bind_eq_bind, Option.bind_some, Option.some.injEq, Prod.mk.injEq] at e
    obtain ⟨rfl, _⟩ := e
    exact ⟨h.led, rfl, fun _ => by simpa using S7 (fun j => ow.getD j none) _⟩
  ·exact h.N8 _
 ·exact h.N8 _
end DL
namespace DL
open PySem PySem.Spec PyProof.Rows L2 PySem.W
noncomputable def HJ : Value → Int
 | .int i _ => i
 | _ => 0
abbrev EN := Array (Int × Value)
noncomputable def KH (es : EN) : List Int := es.toList.map fun e => HJ e.2
structure Zdu (P : Program) (w : World) (o : Obj) (es : EN) (t : SetTable) : Prop where
 ex : o.ExactSet
 dt : ∃ ep, o.data = .set es ep t
 el : ElemsOf (intKind P w) es.toList
 bd : es.size < scanBound
 ft : t.fits es.size = true
 ok : TOk (w.params.followText "set-order") t
 nd : (KH es).Nodup
def SI (P : Program) (w : World) (h : Heap) (a : Addr) (ks : List Int) : Prop := ∃ o es t, h.get? a = some o ∧ Zdu P w o es t ∧ ks = KH es
section
variable {P : Program} {w : World} {A : Around} {E : Value → Shared → Prop} {s : Shared}
theorem CK {es : List (Int × Value)} (h : ElemsOf (intKind P w) es) {e : Int × Value} (he : e ∈ es) : ∃ t, e.2 = .int (HJ e.2) t := by
 obtain ⟨⟨k, hk, _⟩, _⟩ := h e he
 obtain ⟨t, q⟩ := Value.isInt_shape (k := k) (v := e.2) hk
 rw [q]
 exact ⟨t, rfl⟩
theorem SI.size {h : Heap} {a : Addr} {ks : List Int} (hS : SI P w h a ks) : ks.length < scanBound := by
 obtain ⟨o, es, t, _, so, rfl⟩ := hS
 unfold KH
 rw [List.length_map, Array.length_toList]
 exact so.bd
theorem SI.same {h h' : Heap} {a : Addr} {ks : List Int} (hS : SI P w h a ks) (k : ∀ o, h.get? a = some o → h'.get? a = some o) : SI P w h' a ks := by
 obtain ⟨o, es, t, g, r⟩ := hS
 exact ⟨o, es, t, k o g, r⟩
theorem stored {a : Addr} {o : Obj} {es es' : EN} {t t' : SetTable} (g : s.heap.get? a = some o) (so : Zdu P w o es t) (el : ElemsOf (intKind P w) es'.toList) (bd : es'.size < scanBound) (ft : t'.fits es'.size = true) (ok : TOk (w.params.followText "set-order") t') (nd : (KH es').Nodup) :
  ∃ o', (s.heap.update a (Obj.putSet es' t')).get? a = some o' ∧ Zdu P w o' es' t' := by
 obtain ⟨ep, hd⟩ := so.dt
 have e := putSet_of es' t' hd
 have q := Heap.get?_update_self (Obj.putSet es' t') g (by rw [e]; rfl)
 rw [e] at q
 exact ⟨_, q, so.ex, ⟨_, rfl⟩, el, bd, ft, ok, nd⟩
theorem P1 {a : Addr} {o : Obj} {es es' : EN} {t t' : SetTable} {Q : Unit → Shared → Prop} (g : s.heap.get? a = some o) (so : Zdu P w o es t) (bd : es'.size < scanBound) (h : Q () { s with heap := s.heap.update a (Obj.putSet es' t') }) : wpAny (model P w) A (storeSet a es' t') Q E s := by
 obtain ⟨ep, hd⟩ := so.dt
 exact wpAny_storeSet_of g hd h (fits_of_scanBound bd)
theorem Sm {a : Addr} {k : Int} {tok : Tok} {ks : List Int} {Q : Bool → Shared → Prop} (hS : SI P w s.heap a ks) (room : ks.length + 1 < scanBound)
  (h : ∀ h' ks' b, Heap.SameBut a s.heap h' → SI P w h' a ks' → (∀ z, z ∈ ks' ↔ z ∈ ks ∨ z = k) → ks'.length ≤ ks.length + 1 → Q b { s with heap := h' }) :
  wpAny (model P w) A (setAddHashed a (.int k tok) ((intKind P w).hash k)) Q E s := by
 obtain ⟨o, es, t, g, so, rfl⟩ := hS
 obtain ⟨ep, hd⟩ := so.dt
 have len : (KH es).length = es.size := by unfold KH; rw [List.length_map, Array.length_toList]
 have key : (intKind P w).is k (.int k tok) = true := intKind_is _ _ _ _
 have gv : ∀ (b : Bool) {s₁ : Shared} {Q' : Unit → Shared → Prop}, Q' () s₁ → wpAny (model P w) A (match b with | true => rule "set.scan.the-table-gave-way" | false => pure ()) Q' E s₁ :=
  fun b s₁ Q' hq => match b with | false => wpAny_pure hq | true => wpAny_rule hq
 unfold setAddHashed setAddHashedIn
 refine wpAny_holding (wpAny_bind (wpAny_setState_of g hd so.ft ?_)); dsimp only
 rw [byScan_of (knd := intKind P w) (x := .int k tok) rfl so.bd so.el]; simp only [↓reduceIte]; unfold setAddByScan
 refine wpAny_bind (wpAny_bind (wpAny_rule (wpAny_bind (wpAny_setScan_of key g hd so.ft so.el ?_))))
 cases hr : List.findIdx? (fun e => (intKind P w).is k e.2) es.toList with
 | some j =>
  obtain ⟨hj, hpj, _⟩ := List.findIdx?_eq_some_iff_getElem.mp hr
  have hin : k ∈ KH es := by
   obtain ⟨t', q⟩ := Value.isInt_shape (k := k) hpj
   exact List.mem_map.mpr ⟨es.toList[j], List.getElem_mem hj, by rw [q]; rfl⟩
  refine wpAny_pure (wpAny_pure ?_)
  exact h s.heap (KH es) false (Heap.SameBut.refl a s.heap) ⟨o, es, t, g, so, rfl⟩ (fun z => ⟨.inl, fun q => q.elim id fun e => e ▸ hin⟩) (Nat.le_succ _)
 | none =>
  have hno : k ∉ KH es := fun hm => by
   obtain ⟨e, he, q⟩ := List.mem_map.mp hm
   obtain ⟨t', q'⟩ := CK so.el he
   have := List.findIdx?_eq_none_iff.mp hr e he
   rw [q', q] at this
   exact absurd (intKind_is P w k t') (by rw [this]; exact Bool.false_ne_true)
  have pm := layNew_perm t es ((intKind P w).hash k) (.int k tok)
  have ft := layNew_fits t es ((intKind P w).hash k) (.int k tok)
  have tk := so.ok.new es ((intKind P w).hash k) (.int k tok)
  dsimp only
  generalize layNew t es ((intKind P w).hash k) (.int k tok) = L at pm ft tk ⊢
  obtain ⟨e1, t1, wd, gave⟩ := L; dsimp only at pm ft tk ⊢; rw [Array.toList_push] at pm
  have el1 : ElemsOf (intKind P w) e1.toList := (so.el.push key rfl).perm pm
  have pk : (KH e1).Perm (KH es ++ [k]) := by
   have := pm.map fun e : Int × Value => HJ e.2
   rw [List.map_append] at this
   exact this
  have sz1 : e1.size = es.size + 1 := by rw [← Array.length_toList, pm.length_eq, List.length_append, Array.length_toList]; rfl
  have bd1 : e1.size < scanBound := by omega
  have nd1 : (KH e1).Nodup := pk.nodup_iff.mpr (List.nodup_append.mpr ⟨so.nd, List.nodup_cons.mpr ⟨(fun q => nomatch q), List.nodup_nil⟩, fun x hx y hy e => hno (by rw [List.mem_singleton.mp hy] at e; rw [← e]; exact hx)⟩)
  have mem1 : ∀ z, z ∈ KH e1 ↔ z ∈ KH es ∨ z = k := fun z => by rw [pk.mem_iff, List.mem_append, List.mem_singleton]
  have fin : ∀ (t2 : SetTable), t2.fits e1.size = true → TOk (w.params.followText "set-order") t2 → wpAny (model P w) A (do
     storeSet a e1 t2
     if (!wd && t2.tooFull) = true then do
       (match (relayAll t2 e1 (SetTable.grown e1.size)).2.2 with | true => rule "set.scan.the-table-gave-way" | false => pure ())
       storeSet a (relayAll t2 e1 (SetTable.grown e1.size)).1 (relayAll t2 e1 (SetTable.grown e1.size)).2.1
       pure (some true)
      else pure (some true)) (fun r s' => ∃ h' ks', s' = { s with heap := h' } ∧ r = some true ∧ Heap.SameBut a s.heap h' ∧ SI P w h' a ks' ∧ (∀ z, z ∈ ks' ↔ z ∈ KH es ∨ z = k) ∧ ks'.length ≤ (KH es).length + 1) E s := fun t2 ft2 tk2 => by
   obtain ⟨o1, g1, so1⟩ := stored (s := s) g so el1 bd1 ft2 tk2 nd1
   refine wpAny_bind (P1 g so bd1 ?_)
   have sb1 := Heap.SameBut.update s.heap a (Obj.putSet e1 t2)
   have ln1 : (KH e1).length ≤ (KH es).length + 1 := by rw [pk.length_eq, List.length_append]; exact Nat.le_refl _
   split
   ·have pm2 := relayAll_perm t2 e1 (SetTable.grown e1.size)
    have ft3 := relayAll_fits t2 e1 (SetTable.grown e1.size)
    have tk3 := tk2.re e1 (SetTable.grown e1.size)
    generalize relayAll t2 e1 (SetTable.grown e1.size) = L at pm2 ft3 tk3 ⊢
    obtain ⟨e2, t3, gave2⟩ := L; dsimp only at pm2 ft3 tk3 ⊢
    have pk2 : (KH e2).Perm (KH e1) := pm2.map _
    have sz2 : e2.size = e1.size := by rw [← Array.length_toList, pm2.length_eq, Array.length_toList]
    have bd2 : e2.size < scanBound := by omega
    obtain ⟨o2, g2, so2⟩ := stored (s := { s with heap := s.heap.update a (Obj.putSet e1 t2) }) g1 so1 (el1.perm pm2) bd2 ft3 tk3 (pk2.nodup_iff.mpr nd1)
    refine wpAny_bind (gv _ (wpAny_bind (P1 (s := { s with heap := s.heap.update a (Obj.putSet e1 t2) }) g1 so1 bd2 (wpAny_pure ?_))))
    exact ⟨_, _, rfl, rfl, sb1.trans (Heap.SameBut.update _ a _), ⟨o2, e2, t3, g2, so2, rfl⟩, fun z => (pk2.mem_iff).trans (mem1 z), by rw [pk2.length_eq]; exact ln1⟩
   ·exact wpAny_pure ⟨_, _, rfl, rfl, sb1, ⟨o1, e1, t2, g1, so1, rfl⟩, mem1, ln1⟩
  refine wpAny_bind (gv _ ?_)
  split
  ·rw [hashByValue_scannable 8 (x := .int k tok) rfl]
   refine wpAny_bind (wpAny_pure ?_)
   rw [show plainKind (Value.int k tok) = true from rfl]; simp only [↓reduceIte]
   exact wpAny_mono (fin t1 ft tk) (fun r s' ⟨h', ks', e1, e2, sb, hs, hm, hl⟩ => by subst e1 e2; exact wpAny_pure (h h' ks' true sb hs hm hl)) fun _ _ q => q
  ·refine wpAny_bind (wpAny_pure ?_); simp only [↓reduceIte]
   exact wpAny_mono (fin t1 ft tk) (fun r s' ⟨h', ks', e1, e2, sb, hs, hm, hl⟩ => by subst e1 e2; exact wpAny_pure (h h' ks' true sb hs hm hl)) fun _ _ q => q
end
end DL
namespace DL
open PySem PySem.Spec PyProof.Rows L2 PySem.W
section
variable {P : Program} {w : World} {A : Around} {R : Result → Shared → Prop} {I : Addr} {fp wr : List Addr} {G : Array GenState → Array GenState → Prop} {n : Nat} {Pv : Nat → Value → Prop} {St : Nat → Shared → Prop}
theorem ML (W : WalksS P w A.in1 I fp wr G n Pv St) (S : Addr) (hSf : S ∉ fp) (val : Nat → Int) (hval : ∀ i v, Pv i v → ∃ t, v = .int (val i) t) (hb : n + 1 < scanBound) :
  ∀ (k i : Nat) (s : Shared) (ks : List Int), n - i = k → i ≤ n → St i s → SI P w s.heap S ks → ks.length ≤ i → (∀ z, z ∈ ks ↔ ∃ j, j < i ∧ z = val j) →
   (∀ s' ks', Moved (S :: wr) G s s' → SI P w s'.heap S ks' → (∀ z, z ∈ ks' ↔ ∃ j, j < n ∧ z = val j) → ks'.length ≤ n → R (.ok (.ret .none)) s') →
   codeAny (model P w) A (.builtin "set.update.loop" ⟨[.ref S, .ref I], []⟩) R s := by
 have hSw : S ∉ wr := fun h => hSf (W.sub _ h)
 have up : ∀ b, b ∈ wr → b ∈ S :: wr := fun _ h => List.mem_cons_of_mem _ h
 intro k
 induction k with
 | zero =>
  intro i s ks hk hi hst hS hl hm hR
  obtain rfl : i = n := by omega
  refine codeAny_builtin PyProof.Rows.F.entry_set_update_loop ?_; rw [Around.under_plainId PyProof.Rows.F.plain_set_update_loop _]
  refine wpAny_bind (W.done s _ _ hst fun s' mv => wpAny_pure ?_)
  exact hR s' ks (mv.mono up) (hS.same fun o e => mv.heap S o hSw e) hm hl
 | succ k ih =>
  intro i s ks hk hi hst hS hl hm hR
  have hlt : i < n := by omega
  refine codeAny_builtin PyProof.Rows.F.entry_set_update_loop ?_; rw [Around.under_plainId PyProof.Rows.F.plain_set_update_loop _]
  refine wpAny_bind (W.item i s _ _ hlt hst fun v s' hP hst' mv => ?_)
  obtain ⟨t, rfl⟩ := hval i v hP
  have hS' : SI P w s'.heap S ks := hS.same fun o e => mv.heap S o hSw e
  refine wpAny_bind (wpAny_holding ?_); unfold setAdd
  refine wpAny_holding (wpAny_bind ((intKind P w).pyHash (k := val i) (intKind_is _ _ _ _) ?_))
  refine Sm (s := { s' with toks := s'.toks + 1 }) hS' (by omega) fun h' ks' b sb hS2 hm2 hl2 => ?_
  refine wpAny_pure ⟨plainId_quiet PyProof.Rows.F.plain_set_update_loop _, ih (i + 1) _ ks' (by omega) hlt (W.frame _ s' _ _ hst' (Nat.le_succ _) fun b hb o e => ?_) hS2 (by omega) (fun z => ?_) fun s'' ks'' mv'' hS'' hm'' hl'' => ?_⟩
  ·exact (sb.2 b fun h : b = S => hSf (by rw [← h]; exact hb)).trans e
  ·rw [hm2, hm]
   constructor
   ·rintro (⟨j, hj, e⟩ | e)
    ·exact ⟨j, by omega, e⟩
    ·exact ⟨i, by omega, e⟩
   ·rintro ⟨j, hj, e⟩
    by_cases ej : j = i
    ·exact .inr (by rw [e, ej])
    ·exact .inl ⟨j, by omega, e⟩
  ·exact hR s'' ks'' (Moved.trans W.gtrans ((mv.mono up).then_heap (Nat.le_succ _) fun b o hb e => (sb.2 b fun h : b = S => hb (by rw [h]; exact List.mem_cons_self)).trans e) mv'') hS'' hm'' hl''
end
section
variable {P : Program} {w : World} {A : Around} {E : Value → Shared → Prop} {s : Shared}
noncomputable def VA (w : World) : Obj := { cls := .type "set", dict := none, data := .set #[] 0 (.fresh 0 0 (!w.params.followText "set-order")) }
theorem N5 {h : Heap} {a : Addr} (g : h.get? a = some (VA w)) : SI P w h a [] :=
 ⟨_, #[], _, g, ⟨⟨rfl, rfl, rfl⟩, ⟨0, rfl⟩, fun e he => by simp at he, by decide, rfl, ⟨rfl, rfl, fun _ => List.Pairwise.nil⟩, by simp [KH]⟩, rfl⟩
theorem ZaJ (a : Value) {Q₁ : Value → Shared → Prop} (h : Q₁ (.ref s.heap.objs.size) { s with heap := s.heap.push (VA w) }) :
  codeAny (model P w) A (.call (.builtin "set.__new__") ⟨[.type "set", a], []⟩) (wants Q₁ E) s := by
 refine codeAny_of_tree ?_
 refine wpAny_bind (m := checkBuiltinCall "set.__new__" ⟨[.type "set", a], []⟩) (wpAny_of_eq (PySem.F.newCall_set_1 a) (wpAny_pure ⟨plainId_quiet PySem.F.plain_set_new _, codeAny_builtin PySem.F.entry_set_new ?_⟩))
 rw [Around.under_plainId PySem.F.plain_set_new _]; unfold Builtin.«set.__new__» Builtin.Frozenset.newClass
 have hsub := sub_set_self
 obtain ⟨hp, g, d, tk, os⟩ := s; dsimp only; wp_walk
 refine wpAny_askSetting (wpAny_pure ?_); dsimp only; simp only [newObj]
 exact wpAny_bind (wpAny_alloc (wpAny_pure (wpAny_pure h)))
theorem getD_mem {ns : List Int} {n : Nat} (hn : ns.length = n) (z : Int) : (∃ j, j < n ∧ z = ns.getD j 0) ↔ z ∈ ns := by
 subst hn
 constructor
 ·rintro ⟨j, hj, rfl⟩
  rw [List.getD_eq_getElem?_getD, List.getElem?_eq_getElem hj]
  exact List.getElem_mem hj
 ·intro hz
  obtain ⟨j, hj, e⟩ := List.mem_iff_getElem.mp hz
  exact ⟨j, hj, by rw [List.getD_eq_getElem?_getD, List.getElem?_eq_getElem hj]; exact e.symm⟩
set_option maxHeartbeats 4000000 in
theorem set_list {l : Addr} {items : Array Value} {ns : List Int} {Q : Value → Shared → Prop} (hh : A.handled = none) (hl : s.heap.IsList l items) (hi : IntsAre items.toList ns) (hb : items.size + 1 < scanBound)
  (h : ∀ (h' : Heap) (tk : Nat) (ks : List Int), SI P w h' s.heap.objs.size ks → (∀ z, z ∈ ks ↔ z ∈ ns) → ks.length ≤ ns.length → (∀ b o, b < s.heap.objs.size → s.heap.get? b = some o → h'.get? b = some o) → Q (.ref s.heap.objs.size) { s with heap := h', toks := tk }) :
  wpAny (model P w) A (call (.type "set") [.ref l]) Q E s := by
 obtain ⟨c, tl, hmro⟩ := PySem.F.called_set.mro
 have ln : ns.length = items.size := by rw [← IntsAre.length hi, Array.length_toList]
 have hmade := PySem.F.called_set.made; have hsub := PySem.F.called_set.sub
 refine wpAny_call (codeAny_of_tree ?_); show wpAny _ _ (callAny (.type "set") _) _ _ _
 refine wpAny_pure ⟨Code.quiet_builtin _ (by decide +kernel), codeAny_builtin PySem.F.entry_type_call ?_⟩
 rw [Around.under_plain (weight_type_call_type "set" [.ref l] []) rfl]
 have h1 := PySem.F.called_set.notType; have h2 := PySem.F.called_set.canCreate; have hct := PySem.F.typeCall_set_1 (.ref l)
 repeat (any_goals (first | assumption | wp_step))
 refine codeAny_mono (ZaJ (P := P) (w := w) (.ref l) (E := E) (Q₁ := fun obj s₁ => obj = .ref s.heap.objs.size ∧ s₁ = { s with heap := s.heap.push (VA w) }) ⟨rfl, rfl⟩) fun r s₁ hr => ?_
 cases r with
 | error e => exact hr
 | ok fl =>
  cases fl with
  | ret obj =>
   obtain ⟨rfl, rfl⟩ := hr
   have hS : (s.heap.push (VA w)).get? s.heap.objs.size = some (VA w) := Heap.get?_push_size _ rfl
   have hT : Shared.TypeIs { s with heap := s.heap.push (VA w) } (.ref s.heap.objs.size) "set" := ⟨_, hS, rfl⟩
   have hli := PySem.F.called_set.init.lookup; have hbi := PySem.F.called_set.init.bind (.ref s.heap.objs.size)
   repeat (any_goals (first | assumption | wp_step))
   refine codeAny_mono (codeAny_call_builtin (R := wants (fun r s₂ => r = .none ∧ ∃ h' tk ks, s₂ = { s with heap := h', toks := tk } ∧ SI P w h' s.heap.objs.size ks ∧ (∀ z, z ∈ ks ↔ z ∈ ns) ∧ ks.length ≤ ns.length ∧ (∀ b o, b < s.heap.objs.size → s.heap.get? b = some o → h'.get? b = some o)) E)
    PySem.F.called_set.init.plain PySem.F.entry_set_init (check_set_init_1 hT ?_)) fun r₂ s₂ hr₂ => ?_
   ·obtain ⟨ol, hol, hcl, nl, hdl⟩ := hl
    obtain ⟨ocls, odict, odata, oslots⟩ := ol
    simp only at hcl hdl
    subst hcl; subst hdl
    have hol' : (s.heap.push (VA w)).get? l = some { cls := .type "list", dict := odict, data := .seq items nl, slots := oslots } := Heap.get?_push_of_some _ hol
    have hsls := PySem.F.sub_list_set; have hslf := PySem.F.sub_list_frozenset; have hne : (Value.type "list" == Value.type "dict") = false := by decide
    have hl1 : (s.heap.push (VA w)).IsList l items := ⟨_, hol', rfl, nl, rfl⟩
    unfold Builtin.«set.__init__» noKeywords Builtin.Frozenset.updateFrom
    generalize hPI : pyIter = PI; wp_walk; subst hPI
    refine wpAny_pyIter_list hl1 (wpAny_bind (wpAny_runValue ?_))
    have lS : l < s.heap.objs.size := Heap.lt_size hol
    have nI : l ≠ (s.heap.push (VA w)).objs.size := by rw [Heap.size_push]; exact Nat.ne_of_lt (Nat.lt_succ_of_lt lS)
    have nS : s.heap.objs.size ∉ [(s.heap.push (VA w)).objs.size, l] := by
     rw [Heap.size_push]; simp only [List.mem_cons, List.not_mem_nil, or_false, not_or]; exact ⟨Nat.ne_of_lt (Nat.lt_succ_self _), Nat.ne_of_gt lS⟩
    refine ML (P := P) (w := w) ((Walks.list (show A.in1.in1.in1.handled = none by simp [hh]) _ l nI items).toS) s.heap.objs.size nS (fun i => ns.getD i 0) (fun i v hv => IntsAre.int_at hi i v (by rw [Array.getElem?_toList]; exact hv)) hb (items.size - 0) 0 _ [] (by omega) (Nat.zero_le _)
     ⟨⟨_, Heap.get?_push_size _ rfl, rfl, rfl⟩, (hl1.push _)⟩ (N5 (Heap.get?_push_of_some _ hS)) (Nat.le_refl _) (fun z => ⟨fun q => (nomatch q), fun ⟨j, hj, _⟩ => by omega⟩) ?_
    intro s' ks mv hS' hm hlk
    obtain ⟨h', g', d', tk', os'⟩ := s'
    have eg : g' = s.gens := mv.gens
    have ed : d' = s.drawn := mv.drawn
    have eo : os' = s.os := mv.os
    subst eg ed eo
    refine wpAny_pure (wpAny_pure ⟨rfl, h', tk', ks, rfl, hS', fun z => (hm z).trans (getD_mem ln z), by rw [ln]; exact hlk, fun b o hb e => ?_⟩)
    have b2 : b ≠ (s.heap.push (VA w)).objs.size := by rw [Heap.size_push]; exact Nat.ne_of_lt (Nat.lt_succ_of_lt hb)
    exact mv.heap b o (by simp only [List.mem_cons, List.not_mem_nil, or_false, not_or]; exact ⟨Nat.ne_of_lt hb, b2⟩) (Heap.get?_push_of_some _ (Heap.get?_push_of_some _ e))
   ·cases r₂ with
    | error e => exact hr₂
    | ok fl₂ =>
     cases fl₂ with
     | ret r =>
      obtain ⟨rfl, h', tk, ks, rfl, q1, q2, q3, q4⟩ := hr₂
      repeat (any_goals (first | assumption | wp_step))
      exact h _ _ ks q1 q2 q3 q4
     | _ => exact hr₂.elim
  | _ => exact hr.elim
end
end DL
namespace DL
open PySem PySem.Spec PyProof.Rows L2 PySem.W
section
variable {P : Program} {w : World} {A : Around} {E : Value → Shared → Prop} {s : Shared}
theorem LB {src : Source} {n : Nat} {Q : Nat → Shared → Prop} (hn : n ≠ 0) (h : ∀ r, r < n → Q r { s with drawn := s.drawn.bump src }) : wpAny (model P w) A (choose src n) Q E s := fun _ _ _ => ⟨hn, h _ (Nat.mod_lt _ (Nat.pos_of_ne_zero hn))⟩
theorem Xe {α : Type} : ∀ (l : List α) (r : Nat) (h : r < l.length), (l[r] :: l.eraseIdx r).Perm l
 | a :: l, 0, _ => .refl _
 | a :: l, r + 1, h => by
  rw [List.getElem_cons_succ, List.eraseIdx_cons_succ]
  exact (List.Perm.swap a _ _).trans ((Xe l r (Nat.lt_of_succ_lt_succ h)).cons a)
theorem FT {α : Type} : ∀ (n : Nat) (xs : List α) (s : Shared) (Q : List α → Shared → Prop), xs.length = n → (∀ ys d, ys.Perm xs → Q ys { s with drawn := d }) → wpAny (model P w) A (drawOrder n xs) Q E s
 | 0, xs, s, Q, hl, h => by
  cases xs with
  | nil => exact wpAny_pure (h [] s.drawn (.refl _))
  | cons a l => cases hl
 | n + 1, [], s, Q, hl, h => by cases hl
 | n + 1, a :: l, s, Q, hl, h => by
  unfold drawOrder
  refine wpAny_bind (LB (by simp) fun r hr => ?_)
  rw [List.getElem?_eq_getElem hr]; dsimp only
  refine wpAny_bind (FT n _ _ _ (by rw [List.length_eraseIdx, if_pos hr]; simpa using hl) fun ys d hp => wpAny_pure ?_)
  exact h _ d ((hp.cons _).trans (Xe _ _ hr))
theorem Fo {α : Type} (next : Nat → Nat) : ∀ (fuel k : Nat) (left : List α) (out : Array α), left.length = fuel → (pickOrder.go next fuel k left out).toList.Perm (out.toList ++ left)
 | 0, k, left, out, hl => by
  rw [List.length_eq_zero_iff.mp hl, List.append_nil]
  unfold pickOrder.go
  exact .refl _
 | fuel + 1, k, left, out, hl => by
  have hr : next k % left.length < left.length := Nat.mod_lt _ (by omega)
  unfold pickOrder.go
  rw [List.getElem?_eq_getElem hr]; dsimp only
  refine (Fo next fuel (k + 1) _ _ (by rw [List.length_eraseIdx, if_pos hr, hl]; rfl)).trans ?_
  rw [Array.toList_push, List.append_assoc]
  exact (List.Perm.refl _).append (Xe _ _ hr)
theorem YD {α : Type} (next : Nat → Nat) (xs : Array α) : (pickOrder next xs).toList.Perm xs.toList := by
 unfold pickOrder
 have := Fo next xs.size 0 xs.toList #[] (by rw [Array.length_toList])
 simpa using this
abbrev VH (h : Heap) (it : Addr) (first : Value) (i : Nat) (S : Addr) (n ep : Nat) : Prop :=
 h.get? it = some { cls := .type "set_iterator", dict := none, data := .fields #[first, rawInt i, .ref S, rawInt n, rawInt ep], slots := #[] }
def Md (w : World) (h : Heap) (first : Value) (i : Nat) (S : Addr) (es : EN) (ep : Nat) (t : SetTable) (L : List Value) : Prop :=
 (w.params.followText "set-order" = true ∧ first = rawInt 0 ∧ L = (pickOrder (w.params.setOrder S ep) es).toList.map (·.2)) ∨
 (w.params.followText "set-order" = false ∧ ∃ (T : Addr) (ps : List Nat), first = .ref T ∧ IsTup h T (ps.map fun p : Nat => rawInt (p : Int)).toArray ∧ ps.Perm (List.range es.size) ∧ L = ps.map fun p => (es.getD p (0, .none)).2) ∨
 (w.params.followText "set-order" = false ∧ first = rawInt (if i = 0 then 0 else t.place.getD (i - 1) 0 + 1) ∧ Rsg t.place.toList ∧ t.led = true ∧ (t.plain = true ∨ es.size ≤ 1) ∧ L = es.toList.map (·.2))
theorem ZcZ {it S : Addr} {first x : Value} {i n ep : Nat} {z : Int} {Q : PySem.Fin → Shared → Prop} (hit : VH s.heap it first i S n ep) (hQ : ∀ h', VH h' it (rawInt z) (i + 1) S n ep → Heap.SameBut it s.heap h' → Q (.done (.ret x)) { s with heap := h' }) :
  wpAny (model P w) A (do setField (.ref it) 0 (rawInt z); setField (.ref it) 1 (rawInt ((i : Int) + 1)); ret x) Q E s := by
 refine wpAny_bind (wpAny_setField_rec hit (by simp) fun h1 g1 s1 => ?_)
 refine wpAny_bind (wpAny_setField_rec (s := { s with heap := h1 }) g1 (by simp) fun h2 g2 s2 => wpAny_pure ?_)
 exact hQ h2 g2 (s1.trans s2)
theorem ZeN {it S : Addr} {first x : Value} {i n ep : Nat} {Q : PySem.Fin → Shared → Prop} (hit : VH s.heap it first i S n ep) (hQ : ∀ h', VH h' it first (i + 1) S n ep → Heap.SameBut it s.heap h' → Q (.done (.ret x)) { s with heap := h' }) :
  wpAny (model P w) A (do setField (.ref it) 1 (rawInt ((i : Int) + 1)); ret x) Q E s :=
 wpAny_bind (wpAny_setField_rec hit (by simp) fun h1 g1 s1 => wpAny_pure (hQ h1 g1 s1))
theorem FN {S : Addr} {ep : Nat} {o : Obj} {es : EN} {t : SetTable} {Q : EN → Shared → Prop} (ho : s.heap.get? S = some o) (hd : o.data = .set es ep t) (hf : t.fits es.size = true) (bt : w.params.followText "set-order" = true) (h : Q (pickOrder (w.params.setOrder S ep) es) s) : wpAny (model P w) A (setWalk S) Q E s := by
 unfold setWalk setsByText
 refine wpAny_bind (wpAny_setState_of ho hd hf ?_); dsimp only
 refine wpAny_bind (wpAny_bind (wpAny_askSetting (wpAny_pure ?_)))
 rw [if_pos (show (model P w).w.params.followText "set-order" = true from bt)]
 exact wpAny_bind (wpAny_askSetting (wpAny_pure h))
theorem below_at {xs : Array Nat} (h : Rsg xs.toList) {i : Nat} (hi : i < xs.size) : SetTable.below xs (if i = 0 then 0 else xs.getD (i - 1) 0 + 1) = i := by
 have sp := KJ h (if i = 0 then 0 else xs.getD (i - 1) 0 + 1)
 generalize SetTable.below xs (if i = 0 then 0 else xs.getD (i - 1) 0 + 1) = r at sp
 obtain ⟨s1, s2, s3⟩ := sp
 rw [Array.length_toList] at s3
 have at' : ∀ k, k < xs.size → xs.toList[k]? = some (xs.getD k 0) := fun k hk => by rw [Array.getElem?_toList, Array.getElem?_eq_getElem hk]; simp [Array.getD, hk]
 by_cases e : i = 0
 ·subst e
  rw [if_pos rfl] at s1
  by_cases hr : r = 0
  ·exact hr
  ·exact absurd (s1 0 _ (by omega) (at' 0 (by omega))) (Nat.not_lt_zero _)
 ·rw [if_neg e] at s1 s2
  have h1 : ¬ r ≤ i - 1 := fun z => by
   have := s2 _ _ z (at' (i - 1) (by omega))
   omega
  have h2 : ¬ i < r := fun z => by
   have a := s1 i _ z (at' i hi)
   have b := h.lt (at' (i - 1) (by omega)) (at' i hi) (by omega)
   omega
  omega
theorem RM {it S : Addr} {first : Value} {i n ep : Nat} {o : Obj} {es : EN} {t : SetTable} {L : List Value} {Q : Fin → Shared → Prop} (hit : VH s.heap it first i S n ep) (ho : s.heap.get? S = some o) (hd : o.data = .set es ep t) (hf : t.fits es.size = true) (hn : es.size = n)
  (md : Md w s.heap first i S es ep t L) (hi : i < n)
  (hQ : ∀ h' v first', L[i]? = some v → VH h' it first' (i + 1) S n ep → Heap.SameBut it s.heap h' → (∀ h'', (∀ b o, s.heap.get? b = some o → b ≠ it → h''.get? b = some o) → Md w h'' first' (i + 1) S es ep t L) → (∀ T', first' = .ref T' → first = .ref T') → Q (.done (.ret v)) { s with heap := h' }) :
  wpAny (model P w) A (Builtin.«set_iterator.__next__» ⟨[.ref it], []⟩) Q E s := by
 subst hn
 show wpAny _ _ (fieldsOf (.ref it) >>= _) _ _ _
 refine wpAny_bind (wpAny_fieldsOf hit rfl ?_)
 refine wpAny_bind (wpAny_setEntries_of ho hd hf ?_)
 rw [if_neg (by simp)]; dsimp only
 rcases md with ⟨bt, rfl, rfl⟩ | ⟨bt, T, ps, rfl, hT, hp, rfl⟩ | ⟨bt, rfl, up, led, pl, rfl⟩
 ·show wpAny _ _ (setNext S 0 ((i : Int)).toNat ((ep : Int)).toNat >>= _) _ _ _
  rw [Int.toNat_natCast, Int.toNat_natCast]
  unfold setNext setsByText
  refine wpAny_bind (wpAny_bind (wpAny_setState_of ho hd hf ?_)); dsimp only
  refine wpAny_bind (wpAny_bind (wpAny_askSetting (wpAny_pure ?_)))
  rw [if_pos (show (model P w).w.params.followText "set-order" = true from bt), if_neg (by simp)]
  refine wpAny_bind (FN ho hd hf bt (wpAny_pure ?_))
  have lp : (pickOrder (w.params.setOrder S ep) es).size = es.size := by rw [← Array.length_toList, (YD _ es).length_eq, Array.length_toList]
  rw [Array.getElem?_eq_getElem (by rw [lp]; exact hi)]
  refine ZcZ (z := ((0 : Nat) : Int)) hit fun h' g sb => hQ h' _ _ ?_ g sb (fun h'' _ => .inl ⟨bt, rfl, rfl⟩) fun T' e => nomatch e
  rw [List.getElem?_map, Array.getElem?_toList, Array.getElem?_eq_getElem (by rw [lp]; exact hi)]
  rfl
 ·show wpAny _ _ (seqItems? (.ref T) >>= _) _ _ _
  obtain ⟨oT, gT, cT, nT, dT⟩ := hT
  have lp : ps.length = es.size := by rw [hp.length_eq, List.length_range]
  refine wpAny_bind (wpAny_seqItems gT dT ?_); dsimp only
  have ip : i < ps.length := by omega
  have pe : ps[i] < es.size := List.mem_range.mp (hp.mem_iff.mp (List.getElem_mem ip))
  rw [Int.toNat_natCast, List.getElem?_toArray, List.getElem?_map, List.getElem?_eq_getElem ip]
  show wpAny _ _ (setNextDrawn S ((ps[i] : Int)).toNat ((ep : Int)).toNat >>= _) _ _ _
  rw [Int.toNat_natCast, Int.toNat_natCast]; unfold setNextDrawn
  refine wpAny_bind (wpAny_bind (wpAny_setState_of ho hd hf ?_)); dsimp only
  rw [if_neg (by simp), Array.getElem?_eq_getElem pe]; dsimp only
  refine wpAny_pure (ZeN hit fun h' g sb => hQ h' _ _ ?_ g sb (fun h'' kk => .inr (.inl ⟨bt, T, ps, rfl, ⟨oT, kk T oT gT ?_, cT, nT, dT⟩, hp, rfl⟩)) fun T' e => e)
  ·rw [List.getElem?_map, List.getElem?_eq_getElem ip]
   simp [Array.getD, pe]
  ·intro e
   rw [e, hit] at gT
   cases gT
   exact absurd (Value.type.inj cT) (by decide)
 ·have sz : t.place.size = es.size := by
   unfold SetTable.fits at hf
   rw [Bool.and_eq_true] at hf
   exact eq_of_beq hf.1
  show wpAny _ _ (setNext S ((if i = 0 then (0 : Int) else (t.place.getD (i - 1) 0 : Int) + 1)).toNat ((i : Int)).toNat ((ep : Int)).toNat >>= _) _ _ _
  have ez : (if i = 0 then (0 : Int) else (t.place.getD (i - 1) 0 : Int) + 1).toNat = (if i = 0 then 0 else t.place.getD (i - 1) 0 + 1) := by split <;> omega
  rw [ez, Int.toNat_natCast, Int.toNat_natCast]
  unfold setNext setsByText
  refine wpAny_bind (wpAny_bind (wpAny_setState_of ho hd hf ?_)); dsimp only
  refine wpAny_bind (wpAny_bind (wpAny_askSetting (wpAny_pure ?_)))
  rw [if_neg (show ¬ (model P w).w.params.followText "set-order" = true by rw [show (model P w).w.params.followText "set-order" = false from bt]; exact Bool.false_ne_true)]
  have nd : (!t.plain && decide (es.size > 1)) = false := by
   rcases pl with pl | pl
   ·rw [pl]; rfl
   ·rw [decide_eq_false (by omega), Bool.and_false]
  show wpAny _ _ (if (!t.plain && decide (es.size > 1)) = true then _ else _) _ _ _
  rw [nd, if_neg Bool.false_ne_true]
  show wpAny _ _ ((if (!t.led && !es.isEmpty) = true then unsupported "set:maker-not-led" else pure ()) >>= _) _ _ _
  rw [led]; simp only [Bool.not_true, Bool.false_and, Bool.false_eq_true, if_false]
  refine wpAny_bind (wpAny_pure (wpAny_pure ?_))
  rw [below_at up (by rw [sz]; exact hi), Array.getElem?_eq_getElem hi, Array.getElem?_eq_getElem (by rw [sz]; exact hi)]; dsimp only
  refine ZcZ (z := ((t.place[i]'(by rw [sz]; exact hi) + 1 : Nat) : Int)) hit fun h' g sb => hQ h' _ _ ?_ g sb (fun h'' _ => .inr (.inr ⟨bt, ?_, up, led, pl, rfl⟩)) fun T' e => nomatch e
  ·rw [List.getElem?_map, Array.getElem?_toList, Array.getElem?_eq_getElem hi]
   rfl
  ·rw [if_neg (Nat.succ_ne_zero i)]
   simp [Array.getD, sz, hi]
end
end DL
namespace DL
open PySem PySem.Spec PyProof.Rows L2 PySem.W
theorem JO : Slot "set_iterator" "__next__" "set_iterator.__next__" := .of (owner := "set_iterator") (n := "__next__") (by rw [typeLookup_type, builtinLookup_eq_fast]; kernel_rfl) (by decide +kernel) (by decide +kernel) (by decide +kernel) (by first | exact .inl (by decide +kernel) | exact .inr (by decide +kernel)) (by rw [isSubtype_type]; kernel_rfl)
theorem GH : entryFor table "set_iterator.__next__" = some Builtin.«set_iterator.__next__» := entryFor_of_tree (by kernel_rfl)
theorem DF (a : Value) : argsOk "set_iterator.__next__" ⟨[a], []⟩ := by unfold argsOk; kernel_rfl
theorem Gv : Slot "set_iterator" "__iter__" "set_iterator.__iter__" := .of (owner := "set_iterator") (n := "__iter__") (by rw [typeLookup_type, builtinLookup_eq_fast]; kernel_rfl) (by decide +kernel) (by decide +kernel) (by decide +kernel) (by first | exact .inl (by decide +kernel) | exact .inr (by decide +kernel)) (by rw [isSubtype_type]; kernel_rfl)
theorem El : entryFor table "set_iterator.__iter__" = some Builtin.«dict_keyiterator.__iter__» :=
 entryFor_alias (id' := "dict_keyiterator.__iter__") (by kernel_rfl) (by first | rfl | decide +kernel | (unfold String.splitOn; simp +decide [String.splitOnAux])) (by decide +kernel) (by kernel_rfl)
theorem LL (a : Value) : argsOk "set_iterator.__iter__" ⟨[a], []⟩ := by unfold argsOk; kernel_rfl
theorem Bf : entryFor table "set.__iter__" = some Builtin.«frozenset.__iter__» :=
 entryFor_alias (id' := "frozenset.__iter__") (by kernel_rfl) (by first | rfl | decide +kernel | (unfold String.splitOn; simp +decide [String.splitOnAux])) (by decide +kernel) (by kernel_rfl)
section
variable {P : Program} {w : World} {A : Around} {E : Value → Shared → Prop} {s : Shared}
theorem HQ {α : Type} {Q : α → Shared → Prop} (hh : A.handled = none) (hE : ∀ h' e, (∀ b o, s.heap.get? b = some o → h'.get? b = some o) → (∃ o, h'.get? e = some o ∧ o.cls = .type "StopIteration") → E (.ref e) { s with heap := h' }) :
  wpAny (model P w) A (newExc (.type "StopIteration") [] >>= fun e => (raiseNew e : Sem α)) Q E s := by
 refine wpAny_bind ?_
 simp only [newExc, newTuple]
 refine wpAny_bind (wpAny_newObj_type ?_ (by size_fits))
 refine wpAny_bind (m := firstArgMember _ _) (wpAny_of_eq (a := Value.none) (by first | rfl | (simp only [firstArgMember]; rfl)) ?_)
 refine wpAny_newObj_type ?_ (by size_fits)
 simp only [raiseNew]
 refine wpAny_bind (wpAny_handled ?_)
 rw [hh]
 refine wpAny_bind (wpAny_pure (wpAny_throw ?_))
 exact hE _ _ (fun b o q => Heap.get?_push_of_some _ (Heap.get?_push_of_some _ q)) ⟨_, Heap.get?_push_size _ rfl, rfl⟩
theorem ZbP {it S : Addr} {first : Value} {n ep : Nat} {o : Obj} {es : EN} {t : SetTable} {L : List Value} {Q : PySem.Fin → Shared → Prop} (hh : A.handled = none) (hit : VH s.heap it first n S n ep) (ho : s.heap.get? S = some o) (hd : o.data = .set es ep t) (hf : t.fits es.size = true) (hn : es.size = n)
  (md : Md w s.heap first n S es ep t L) (hE : ∀ h' e, (∀ b o, b ≠ it → s.heap.get? b = some o → h'.get? b = some o) → (∃ o, h'.get? e = some o ∧ o.cls = .type "StopIteration") → E (.ref e) { s with heap := h' }) :
  wpAny (model P w) A (Builtin.«set_iterator.__next__» ⟨[.ref it], []⟩) Q E s := by
 subst hn
 have fin : wpAny (model P w) A (do setField (.ref it) 2 .none; raiseNew (← newExc (.type "StopIteration") []) : Sem PySem.Fin) Q E s :=
  wpAny_bind (wpAny_setField_rec hit (by simp) fun h1 g1 s1 => HQ (s := { s with heap := h1 }) hh fun h' e k x => hE h' e (fun b o hb q => k b o ((s1.2 b hb).trans q)) x)
 show wpAny _ _ (fieldsOf (.ref it) >>= _) _ _ _
 refine wpAny_bind (wpAny_fieldsOf hit rfl (wpAny_bind (wpAny_setEntries_of ho hd hf ?_)))
 rw [if_neg (by simp)]; dsimp only
 rcases md with ⟨bt, rfl, rfl⟩ | ⟨bt, T, ps, rfl, hT, hp, rfl⟩ | ⟨bt, rfl, up, led, pl, rfl⟩
 ·show wpAny _ _ (setNext S 0 ((es.size : Int)).toNat ((ep : Int)).toNat >>= _) _ _ _
  rw [Int.toNat_natCast, Int.toNat_natCast]; unfold setNext setsByText
  refine wpAny_bind (wpAny_bind (wpAny_setState_of ho hd hf (wpAny_bind (wpAny_bind (wpAny_askSetting (wpAny_pure ?_))))))
  rw [if_pos (show (model P w).w.params.followText "set-order" = true from bt), if_neg (by simp)]
  refine wpAny_bind (FN ho hd hf bt (wpAny_pure ?_))
  have lp : (pickOrder (w.params.setOrder S ep) es).size = es.size := by rw [← Array.length_toList, (YD _ es).length_eq, Array.length_toList]
  rw [Array.getElem?_eq_none (by rw [lp]; exact Nat.le_refl _)]
  exact fin
 ·show wpAny _ _ (seqItems? (.ref T) >>= _) _ _ _
  obtain ⟨oT, gT, cT, nT, dT⟩ := hT
  have lp : ps.length = es.size := by rw [hp.length_eq, List.length_range]
  refine wpAny_bind (wpAny_seqItems gT dT ?_); dsimp only
  rw [Int.toNat_natCast, List.getElem?_toArray, List.getElem?_map, List.getElem?_eq_none (by omega)]; dsimp only [Option.map_none]
  refine wpAny_bind (wpAny_setField_rec hit (by simp) fun h0 g0 s0 => ?_)
  exact wpAny_bind (wpAny_setField_rec (s := { s with heap := h0 }) g0 (by simp) fun h1 g1 s1 => HQ (s := { s with heap := h1 }) hh fun h' e k x => hE h' e (fun b o hb q => k b o ((s1.2 b hb).trans ((s0.2 b hb).trans q))) x)
 ·have sz : t.place.size = es.size := by
   unfold SetTable.fits at hf
   rw [Bool.and_eq_true] at hf
   exact eq_of_beq hf.1
  show wpAny _ _ (setNext S ((if es.size = 0 then (0 : Int) else (t.place.getD (es.size - 1) 0 : Int) + 1)).toNat ((es.size : Int)).toNat ((ep : Int)).toNat >>= _) _ _ _
  rw [Int.toNat_natCast, Int.toNat_natCast]; unfold setNext setsByText
  refine wpAny_bind (wpAny_bind (wpAny_setState_of ho hd hf (wpAny_bind (wpAny_bind (wpAny_askSetting (wpAny_pure ?_))))))
  rw [if_neg (show ¬ (model P w).w.params.followText "set-order" = true by rw [show (model P w).w.params.followText "set-order" = false from bt]; exact Bool.false_ne_true)]
  have nd : (!t.plain && decide (es.size > 1)) = false := by
   rcases pl with pl | pl
   ·rw [pl]; rfl
   ·rw [decide_eq_false (by omega), Bool.and_false]
  show wpAny _ _ (if (!t.plain && decide (es.size > 1)) = true then _ else _) _ _ _
  rw [nd, if_neg Bool.false_ne_true]
  show wpAny _ _ ((if (!t.led && !es.isEmpty) = true then unsupported "set:maker-not-led" else pure ()) >>= _) _ _ _
  rw [led]; simp only [Bool.not_true, Bool.false_and, Bool.false_eq_true, if_false]
  refine wpAny_bind (wpAny_pure (wpAny_pure ?_))
  have bl : SetTable.below t.place ((if es.size = 0 then (0 : Int) else (t.place.getD (es.size - 1) 0 : Int) + 1)).toNat = es.size := by
   obtain ⟨s1, s2, s3⟩ := KJ up ((if es.size = 0 then (0 : Int) else (t.place.getD (es.size - 1) 0 : Int) + 1)).toNat
   rw [Array.length_toList, sz] at s3
   by_cases e : es.size = 0
   ·omega
   ·rw [if_neg e] at s1 s2 s3 ⊢
    by_cases hr : SetTable.below t.place ((t.place.getD (es.size - 1) 0 : Int) + 1).toNat ≤ es.size - 1
    ·have := s2 _ _ hr (show t.place.toList[es.size - 1]? = some (t.place.getD (es.size - 1) 0) by rw [Array.getElem?_toList, Array.getElem?_eq_getElem (by omega)]; simp [Array.getD, sz]; omega)
     omega
    ·omega
  rw [bl, Array.getElem?_eq_none (Nat.le_refl _)]
  exact fin
def ZcJ (w : World) (it S T : Addr) (es : EN) (ep : Nat) (t : SetTable) (L : List Value) (i : Nat) (h : Heap) : Prop :=
 ∃ first o, VH h it first i S es.size ep ∧ h.get? S = some o ∧ o.data = .set es ep t ∧ t.fits es.size = true ∧ Md w h first i S es ep t L ∧ ∀ T', first = .ref T' → T' = T
theorem Md.keep {h h' : Heap} {first : Value} {i : Nat} {S : Addr} {es : EN} {ep : Nat} {t : SetTable} {L : List Value} (md : Md w h first i S es ep t L) (k : ∀ T, first = .ref T → ∀ o, h.get? T = some o → h'.get? T = some o) : Md w h' first i S es ep t L := by
 rcases md with md | ⟨bt, T, ps, e, ⟨o, g, r⟩, r'⟩ | md
 ·exact .inl md
 ·exact .inr (.inl ⟨bt, T, ps, e, ⟨o, k T e o g, r⟩, r'⟩)
 ·exact .inr (.inr md)
theorem EU {es : EN} {ep : Nat} {t : SetTable} {L : List Value} (hh : A.handled = none) (it S T : Addr) (hS : S ≠ it) (hT : T ≠ it) : Walks P w A it [it, S, T] [it] es.size (fun i v => L[i]? = some v) (ZcJ w it S T es ep t L) where
 sub := fun b hb => by simp at hb; simp [hb]
 frame := fun i h h' st hk => by
  obtain ⟨first, o, g1, g2, d, f, md, hf⟩ := st
  exact ⟨first, o, hk it (by simp) _ g1, hk S (by simp) _ g2, d, f, md.keep fun T' e o q => hk T' (by rw [hf T' e]; simp) o q, hf⟩
 item := fun i s Q E hi st hQ => by
  obtain ⟨first, o, g1, g2, d, f, md, hf⟩ := st
  have hTy : s.TypeIs (.ref it) "set_iterator" := ⟨_, g1, rfl⟩
  unfold pyNext
  refine wpAny_bind (wpAny_attempt (wpAny_callSpecial?_slot (name := Str.ofString "__next__") hTy JO (wpAny_call_entry JO hTy GH (RM g1 g2 d f rfl md hi fun h' v first' hv g' sb mk fr => ⟨v, rfl, wpAny_pure ?_⟩) (DF _))))
  exact hQ v h' s.toks hv ⟨first', o, g', (sb.2 S hS).trans g2, d, f, mk h' fun b o q hb => (sb.2 b hb).trans q, fun T' e => hf T' (fr T' e)⟩ fun b o hb q => (sb.2 b fun e => hb (by simp [e])).trans q
 done := fun s Q E st hQ => by
  obtain ⟨first, o, g1, g2, d, f, md, hf⟩ := st
  have hTy : s.TypeIs (.ref it) "set_iterator" := ⟨_, g1, rfl⟩
  unfold pyNext
  refine wpAny_bind (wpAny_attempt (wpAny_callSpecial?_slot (name := Str.ofString "__next__") hTy JO (wpAny_call_entry JO hTy GH (ZbP (by first | exact hh | simp [hh]) g1 g2 d f rfl md fun h' e k x => ?_) (DF _))))
  obtain ⟨oe, ge, ce⟩ := x
  refine wpAny_bind (wpAny_isInstance (T := "StopIteration") (b := true) ⟨oe, ge, ce⟩ isSubtype_stop (wpAny_pure ?_))
  exact hQ h' s.toks fun b o hb q => k b o (fun e => hb (by simp [e])) q
 self := fun i s Q E st hQ => by
  obtain ⟨first, o, g1, _⟩ := st
  have hTy : s.TypeIs (.ref it) "set_iterator" := ⟨_, g1, rfl⟩
  refine wpAny_pyIter_slot hTy Gv (wpAny_call_entry Gv hTy El ?_ (LL _))
  exact wpAny_pure ⟨_, rfl, "set_iterator", _, hTy, JO.lookup, hQ⟩
theorem To {S : Addr} {ks : List Int} {Q : Value → Shared → Prop} (hS : SI P w s.heap S ks)
  (hQ : ∀ it T es ep t L h' d, ZcJ w it S T es ep t L 0 h' → S ≠ it → T ≠ it → s.heap.objs.size ≤ it → (T = S ∨ s.heap.objs.size ≤ T) → (L.map HJ).Perm ks → (∀ v ∈ L, ∃ t, v = .int (HJ v) t) → es.size = ks.length → (∀ b o, s.heap.get? b = some o → h'.get? b = some o) → Q (.ref it) { s with heap := h', drawn := d }) :
  wpAny (model P w) A (pyIter (.ref S)) Q E s := by
 obtain ⟨o, es, t, g, so, rfl⟩ := hS
 obtain ⟨ep, hd⟩ := so.dt
 have hTy : s.TypeIs (.ref S) "set" := ⟨o, g, so.ex.1⟩
 have all : ∀ v ∈ es.toList.map (·.2), ∃ t, v = .int (HJ v) t := fun v hv => by
  obtain ⟨e, he, rfl⟩ := List.mem_map.mp hv
  exact CK so.el he
 have len : es.size = (KH es).length := by unfold KH; rw [List.length_map, Array.length_toList]
 have lt : S < s.heap.objs.size := Heap.lt_size g
 refine wpAny_pyIter_slot hTy PySem.F.slot_set_iter (wpAny_call_entry PySem.F.slot_set_iter hTy Bf ?_ (PySem.F.args_set_iter_1 _))
 show wpAny _ _ (Builtin.Frozenset.sizeOf S >>= _) _ _ _
 unfold Builtin.Frozenset.sizeOf
 refine wpAny_bind (wpAny_bind (wpAny_setEntries_of g hd so.ft (wpAny_pure ?_)))
 unfold setDrawn setsByText
 refine wpAny_bind (wpAny_bind (wpAny_setState_of g hd so.ft ?_)); dsimp only
 refine wpAny_bind (wpAny_bind (wpAny_askSetting (wpAny_pure (wpAny_pure ?_))))
 have fin : ∀ (first : Value) (s₁ : Shared), s₁.heap.get? S = some o → wpAny (model P w) A.in1 (do
    let e ← setEpoch S
    let it ← newFields "set_iterator" [first, rawInt 0, Value.ref S, rawInt (es.size : Int), rawInt (e : Int)]
    ret it) (fun fin s' => ∃ v, fin = PySem.Fin.done (Flow.ret v) ∧ v = .ref s₁.heap.objs.size ∧ s' = { s₁ with heap := s₁.heap.push { cls := .type "set_iterator", dict := none, data := .fields #[first, rawInt 0, .ref S, rawInt es.size, rawInt ep], slots := #[] } }) E s₁ := fun first s₁ g₁ => by
  refine wpAny_bind (wpAny_setEpoch_of g₁ hd so.ft ?_)
  unfold newFields
  refine wpAny_bind (wpAny_newObj_type ?_ (by size_fits))
  exact wpAny_pure ⟨_, rfl, rfl, rfl⟩
 have nx : ∀ (s' : Shared) (it : Addr) (first : Value), s'.heap.get? it = some { cls := .type "set_iterator", dict := none, data := .fields #[first, rawInt 0, .ref S, rawInt es.size, rawInt ep], slots := #[] } → s'.TypeIs (.ref it) "set_iterator" := fun _ _ _ q => ⟨_, q, rfl⟩
 show wpAny _ _ (if (!w.params.followText "set-order" && (!t.plain && decide (es.size > 1))) = true then _ else _) _ _ _
 cases bt : w.params.followText "set-order" with
 | true =>
  simp only [Bool.not_true, Bool.false_and, Bool.false_eq_true, if_false]
  refine wpAny_bind (wpAny_pure (wpAny_mono (fin (rawInt 0) s g) (fun r s' ⟨v, e1, e2, e3⟩ => ?_) fun _ _ q => q))
  subst e1 e2 e3
  have gi : (s.heap.push { cls := .type "set_iterator", dict := none, data := .fields #[rawInt 0, rawInt 0, .ref S, rawInt es.size, rawInt ep], slots := #[] }).get? s.heap.objs.size = some _ := Heap.get?_push_size _ rfl
  refine ⟨_, rfl, "set_iterator", _, nx _ _ _ gi, JO.lookup, hQ _ S es ep t _ _ s.drawn ⟨_, o, gi, Heap.get?_push_of_some _ g, hd, so.ft, .inl ⟨bt, rfl, rfl⟩, fun T' e => nomatch e⟩ (Nat.ne_of_lt lt) (Nat.ne_of_lt lt) (Nat.le_refl _) (.inl rfl) ?_ ?_ len fun b o q => Heap.get?_push_of_some _ q⟩
  ·rw [List.map_map]
   exact (YD _ es).map _
  ·intro v hv
   exact all v (((YD _ es).map _).mem_iff.mp hv)
 | false =>
  cases dr : (!t.plain && decide (es.size > 1)) with
  | false =>
   simp only [Bool.not_false, Bool.true_and, Bool.false_eq_true, if_false]
   refine wpAny_bind (wpAny_pure (wpAny_mono (fin (rawInt 0) s g) (fun r s' ⟨v, e1, e2, e3⟩ => ?_) fun _ _ q => q))
   subst e1 e2 e3
   have gi : (s.heap.push { cls := .type "set_iterator", dict := none, data := .fields #[rawInt 0, rawInt 0, .ref S, rawInt es.size, rawInt ep], slots := #[] }).get? s.heap.objs.size = some _ := Heap.get?_push_size _ rfl
   have pl : t.plain = true ∨ es.size ≤ 1 := by
    cases hp : t.plain with
    | true => exact .inl rfl
    | false =>
     rw [hp] at dr
     have := of_decide_eq_false (show decide (es.size > 1) = false from dr)
     exact .inr (by omega)
   have up : Rsg t.place.toList := by
    rcases pl with pl | pl
    ·exact so.ok.up pl
    ·have sz : t.place.toList.length ≤ 1 := by
      have hf := so.ft
      unfold SetTable.fits at hf
      rw [Bool.and_eq_true] at hf
      rw [Array.length_toList, eq_of_beq hf.1]
      exact pl
     match t.place.toList, sz with
     | [], _ => exact List.Pairwise.nil
     | [a], _ => exact List.pairwise_singleton _ _
   refine ⟨_, rfl, "set_iterator", _, nx _ _ _ gi, JO.lookup, hQ _ S es ep t _ _ s.drawn ⟨_, o, gi, Heap.get?_push_of_some _ g, hd, so.ft, .inr (.inr ⟨bt, rfl, up, by rw [so.ok.led, bt]; rfl, pl, rfl⟩), fun T' e => nomatch e⟩ (Nat.ne_of_lt lt) (Nat.ne_of_lt lt) (Nat.le_refl _) (.inl rfl) ?_ all len fun b o q => Heap.get?_push_of_some _ q⟩
   rw [List.map_map]
   exact .refl _
  | true =>
   simp only [Bool.not_false, Bool.true_and, if_true]
   refine wpAny_bind (FT _ _ _ _ List.length_range fun ps d hp => ?_)
   have lp : ps.length = es.size := by rw [hp.length_eq, List.length_range]
   refine wpAny_bind (wpAny_newTuple ?_ (by rw [List.length_map, lp]; exact fits_of_scanBound so.bd))
   refine wpAny_mono (fin (.ref s.heap.objs.size) _ (Heap.get?_push_of_some _ g)) (fun r s' ⟨v, e1, e2, e3⟩ => ?_) fun _ _ q => q
   subst e1 e2 e3
   have sz : (s.heap.push { cls := .type "tuple", data := .seq (ps.map fun p : Nat => rawInt (p : Int)).toArray }).objs.size = s.heap.objs.size + 1 := Heap.size_push ..
   have gT : (s.heap.push { cls := .type "tuple", data := .seq (ps.map fun p : Nat => rawInt (p : Int)).toArray }).get? s.heap.objs.size = some _ := Heap.get?_push_size _ rfl
   have gi : ((s.heap.push { cls := .type "tuple", data := .seq (ps.map fun p : Nat => rawInt (p : Int)).toArray }).push { cls := .type "set_iterator", dict := none, data := .fields #[.ref s.heap.objs.size, rawInt 0, .ref S, rawInt es.size, rawInt ep], slots := #[] }).get? (s.heap.push { cls := .type "tuple", data := .seq (ps.map fun p : Nat => rawInt (p : Int)).toArray }).objs.size = some _ := Heap.get?_push_size _ rfl
   have pm : (ps.map fun p => (es.getD p (0, Value.none)).2).Perm (es.toList.map (·.2)) := by
    refine (hp.map _).trans (.of_eq ?_)
    refine List.ext_getElem (by simp) fun i h1 h2 => ?_
    have hi : i < es.size := by simpa using h1
    simp [Array.getD, hi]
   refine ⟨_, rfl, "set_iterator", _, nx _ _ _ gi, JO.lookup, hQ _ s.heap.objs.size es ep t _ _ d ⟨_, o, gi, Heap.get?_push_of_some _ (Heap.get?_push_of_some _ g), hd, so.ft, .inr (.inl ⟨bt, s.heap.objs.size, ps, rfl, ⟨_, Heap.get?_push_of_some _ gT, rfl, _, rfl⟩, hp, rfl⟩), fun T' e => by cases e; rfl⟩ ?_ ?_ ?_ (.inr (Nat.le_refl _)) ?_ ?_ len fun b o q => Heap.get?_push_of_some _ (Heap.get?_push_of_some _ q)⟩
   ·intro e
    rw [sz] at e
    exact absurd e (Nat.ne_of_lt (Nat.lt_succ_of_lt lt))
   ·intro e
    rw [sz] at e
    exact absurd e (Nat.ne_of_lt (Nat.lt_succ_self _))
   ·rw [sz]
    exact Nat.le_succ _
   ·have := pm.map HJ
    rw [List.map_map (f := fun x : Int × Value => x.2)] at this
    exact this
   ·intro v hv
    exact all v (pm.mem_iff.mp hv)
end
end DL
namespace DL
open PySem PySem.Spec PyProof.Rows L2 PySem.W
theorem R5 : Slot "set" "__len__" "set.__len__" := .of (owner := "set") (n := "__len__") (by rw [typeLookup_type, builtinLookup_eq_fast]; kernel_rfl) (by decide +kernel) (by decide +kernel) (by decide +kernel) (by first | exact .inl (by decide +kernel) | exact .inr (by decide +kernel)) (by rw [isSubtype_type]; kernel_rfl)
theorem FL : ∀ L : List Value, (∀ v ∈ L, ∃ t, v = .int (HJ v) t) → IntsAre L (L.map HJ)
 | [], _ => .nil
 | v :: L, h => by
  obtain ⟨t, e⟩ := h v List.mem_cons_self
  have := FL L fun x hx => h x (List.mem_cons_of_mem _ hx)
  rw [List.map_cons, e]
  exact .cons _ t this
section
variable {P : Program} {w : World} {A : Around} {E : Value → Shared → Prop} {s : Shared}
theorem Cm {S : Addr} {ks : List Int} {Q : List Value → Shared → Prop} (hh : A.handled = none) (hS : SI P w s.heap S ks)
  (hQ : ∀ (vs : List Value) (s' : Shared), IntsAre vs (vs.map HJ) → (vs.map HJ).Perm ks → s'.gens = s.gens → s'.os = s.os → s.toks ≤ s'.toks → (∀ b o, s.heap.get? b = some o → s'.heap.get? b = some o) → Q vs s') :
  wpAny (model P w) A (collect (.ref S)) Q E s := by
 have hz := hS.size
 obtain ⟨o, es0, t0, g, so, e0⟩ := id hS
 have lt : S < s.heap.objs.size := Heap.lt_size g
 unfold collect
 refine wpAny_bind (wpAny_runValue (codeAny_builtin PySem.F.entry_proto_collect ?_)); rw [Around.under_plainId PySem.F.plain_proto_collect _]
 show wpAny _ A.in1 (newList [] >>= fun l => again (.builtin "list.__iadd__" ⟨[l, .ref S], []⟩)) _ _ s
 refine wpAny_bind (wpAny_newObj_type (wpAny_pure ⟨plainId_quiet PySem.F.plain_list_iadd _, codeAny_builtin PySem.F.entry_list_iadd ?_⟩)); rw [Around.under_plainId PySem.F.plain_list_iadd _]
 show wpAny _ A.in1 (Builtin.List.listExtendWith (.ref s.heap.objs.size) (.ref S) (.ref s.heap.objs.size)) _ _ _
 have hS1 : SI P w (s.heap.push { cls := .type "list", data := .seq ([] : List Value).toArray }) S ks := hS.same fun o q => Heap.get?_push_of_some _ q
 have hTy : Shared.TypeIs { s with heap := s.heap.push { cls := .type "list", data := .seq ([] : List Value).toArray } } (.ref S) "set" := ⟨o, Heap.get?_push_of_some _ g, so.ex.1⟩
 unfold Builtin.List.listExtendWith
 refine wpAny_bind (wpAny_typeOf hTy ?_)
 have h1 : Builtin.List.listSameRef (.ref s.heap.objs.size) (.ref S) = false := by simp [Builtin.List.listSameRef]; exact fun e => absurd e (Nat.ne_of_gt lt)
 simp only [h1, show (Value.type "set" == Value.type "list") = false by decide, show (Value.type "set" == Value.type "tuple") = false by decide, Bool.or_false, Bool.false_eq_true, if_false]
 refine wpAny_bind (To hS1 fun it T es ep t L h2 d st nS nT lit lT pL hL len k2 => ?_)
 have hTy2 : Shared.TypeIs { s with heap := h2, drawn := d } (.ref S) "set" := ⟨o, k2 S o (Heap.get?_push_of_some _ g), so.ex.1⟩
 refine wpAny_bind (wpAny_holding ?_)
 unfold Builtin.List.listLengthHint
 refine wpAny_bind (wpAny_specialOf hTy2 R5.lookup ?_)
 (generalize hid : ("set.__len__" : String) = id0; (fail_if_success (clear hid id0)); wp_delta; rw [show splitId id0 = some ("set", "__len__") from by subst hid; decide +kernel]; subst hid)
 refine wpAny_bind (wpAny_isInstance (b := true) hTy2 sub_set_self ?_)
 rw [if_neg (by decide)]; dsimp only
 rw [if_pos (by decide +kernel)]
 refine wpAny_bind (wpAny_typeOf hTy2 (wpAny_pure ?_))
 rw [if_pos (by decide +kernel)]
 have gN : h2.get? s.heap.objs.size = some { cls := .type "list", data := .seq ([] : List Value).toArray } := k2 _ _ (Heap.get?_push_size _ rfl)
 have szp : (s.heap.push { cls := .type "list", data := .seq ([] : List Value).toArray }).objs.size = s.heap.objs.size + 1 := size_push' _ _
 have nN : s.heap.objs.size ∉ [it, S, T] := fun hm => by
  rw [show (Shared.heap { s with heap := s.heap.push { cls := .type "list", data := .seq ([] : List Value).toArray } }).objs.size = s.heap.objs.size + 1 from szp] at lit lT
  simp at hm
  rcases hm with e | e | e
  ·omega
  ·exact absurd e (Nat.ne_of_gt lt)
  ·rcases lT with q | q
   ·exact absurd (e.trans q) (Nat.ne_of_gt lt)
   ·omega
 have W := (EU (P := P) (w := w) (A := A.in1) (es := es) (ep := ep) (t := t) (L := L) hh it S T nS nT)
 have g2 := Heap.get?_update_self (Obj.mapSeq (·.push Value.none)) gN rfl
 have g3 := Heap.get?_update_self (Obj.mapSeq (·.pop)) g2 rfl
 have oth : ∀ b o, b ≠ s.heap.objs.size → h2.get? b = some o → ((h2.update s.heap.objs.size (Obj.mapSeq (·.push Value.none))).update s.heap.objs.size (Obj.mapSeq (·.pop))).get? b = some o :=
  fun b o hb e => (Heap.get?_update_other _ _ (Ne.symm hb)).trans ((Heap.get?_update_other _ _ (Ne.symm hb)).trans e)
 refine wpAny_bind (wpAny_rule (wpAny_bind ?_))
 show wpAny _ A.in1 (updateSeq s.heap.objs.size (·.push .none) >>= fun _ => updateSeq s.heap.objs.size (·.pop)) _ _ _
 refine wpAny_bind (wpAny_updateSeq gN rfl (wpAny_updateSeq g2 rfl ?_))
 have lL : L.length = es.size := by rw [len, ← pL.length_eq, List.length_map]
 refine wpAny_pure ⟨plainId_quiet PySem.F.plain_extend_loop _, codeAny_extend_loopS W.toS (by rw [len]; exact Nat.le_trans (Nat.le_of_lt hz) (by decide)) _ nN _ es.size 0 _ _ _ rfl (Nat.zero_le _) (W.frame 0 h2 _ st fun b hb o e => oth b o (fun q => nN (q ▸ hb)) e) g3 (ItemsOf.nil _) fun s' acc c hm hS' hacc => ?_⟩
 have eL : acc.toList = L := by
  refine List.ext_getElem? fun j => ?_
  by_cases hj : j < acc.size
  ·rw [Array.getElem?_toList, Array.getElem?_eq_getElem hj]
   exact (hacc.2 j _ (Array.getElem?_eq_getElem hj)).symm
  ·rw [List.getElem?_eq_none (by rw [Array.length_toList]; omega), List.getElem?_eq_none (by rw [lL, ← hacc.1]; omega)]
 show wpAny _ A (load s.heap.objs.size >>= _) _ _ s'
 refine wpAny_bind (wpAny_load hS' (wpAny_pure ?_))
 rw [eL]
 refine hQ L s' (FL L hL) pL hm.gens hm.os hm.toks fun b o q => ?_
 have bl : b < s.heap.objs.size := Heap.lt_size q
 refine hm.heap b o (fun hb => ?_) (oth b o (Nat.ne_of_lt bl) (k2 b o (Heap.get?_push_of_some _ q)))
 rw [show (Shared.heap { s with heap := s.heap.push { cls := .type "list", data := .seq ([] : List Value).toArray } }).objs.size = s.heap.objs.size + 1 from szp] at lit
 rcases List.mem_cons.mp hb with e | e
 ·exact absurd e (Nat.ne_of_lt bl)
 ·rw [List.mem_singleton.mp e] at bl; exact absurd (Nat.lt_of_lt_of_le bl (Nat.le_of_succ_le lit)) (Nat.lt_irrefl _)
end
theorem SI.nodup {P : Program} {w : World} {h : Heap} {a : Addr} {ks : List Int} (q : SI P w h a ks) : ks.Nodup := by
 obtain ⟨o, es, t, _, so, rfl⟩ := q
 exact so.nd
theorem Ol {h : Heap} {vs : List Value} {out : Array Value} {b : Addr} {o : Obj} (q : h.get? b = some o) : (sortedHeap (h.push (seqObj "list" vs.toArray 0)) h.objs.size vs out).get? b = some o := by
 have bl : b < h.objs.size := Heap.lt_size q
 unfold sortedHeap
 exact (Heap.get?_update_other _ _ (Nat.ne_of_gt bl)).trans (Heap.get?_push_of_some _ (Heap.get?_push_of_some _ ((Heap.get?_update_other _ _ (Nat.ne_of_gt bl)).trans (Heap.get?_push_of_some _ q))))
theorem RS (h : Heap) (vs : List Value) (out : Array Value) : ∃ e, (sortedHeap (h.push (seqObj "list" vs.toArray 0)) h.objs.size vs out).get? h.objs.size = some (seqObj "list" out e) := by
 unfold sortedHeap
 have h1 : (h.push (seqObj "list" vs.toArray 0)).get? h.objs.size = some (seqObj "list" vs.toArray 0) := Heap.get?_push_size _ rfl
 exact ⟨_, get?_update_seq (Heap.get?_push_of_some _ (Heap.get?_push_of_some _ (get?_update_seq h1 (fun _ => #[])))) (fun _ => out)⟩
section
variable {P : Program} {w : World} {A : Around} {E : Value → Shared → Prop} {s : Shared}
theorem EF {S : Addr} {ks : List Int} {Q : Value → Shared → Prop} (hh : A.handled = none) (hS : SI P w s.heap S ks) (h64 : ks.length < 64)
  (h : ∀ (out : Array Value) (ns : List Int) (s1 : Shared) (h' : Heap) (e : Nat), IntsAre out.toList ns → ns.Perm ks → ns.Pairwise (· ≤ ·) → s1.gens = s.gens → s1.os = s.os → (∀ b o, s.heap.get? b = some o → s1.heap.get? b = some o) → (∀ b o, s1.heap.get? b = some o → h'.get? b = some o) → h'.get? s1.heap.objs.size = some (seqObj "list" out e) → Q (.ref s1.heap.objs.size) { s1 with heap := h' }) :
  wpAny (model P w) A (call (.builtin "sorted") [.ref S]) Q E s := by
 refine Calls.call_function_entry kind_sorted plain_sorted entry_sorted (args_sorted1 _) ?_; unfold Builtin.«sorted»
 refine wpAny_bind (m := checkCount "sorted" 1 1 _) (wpAny_pure (wpAny_bind (Cm (by exact hh) hS fun vs s1 a1 a2 a3 a4 a5 a6 => wpAny_bind (wpAny_newList ?_ (by have := a2.length_eq; rw [List.length_map] at this; rw [sizeLine_eq]; omega)))))
 have hoL : (s1.heap.push (seqObj "list" vs.toArray 0)).get? s1.heap.objs.size = some (seqObj "list" vs.toArray 0) := Heap.get?_push_size _ rfl
 have hl : vs.length < 64 := by have := a2.length_eq; rw [List.length_map] at this; omega
 show wpAny _ _ _ _ _ { s1 with heap := s1.heap.push (seqObj "list" vs.toArray 0) }
 refine wpAny_bind (wpAny_holding (wpAny_call_entry slot_list_sort ⟨_, hoL, rfl⟩ entry_list_sort (list_sort_tree hoL a1 hl fun out ns' b1 b2 b3 => ⟨_, rfl, ?_⟩) (args_list_sort _)))
 obtain ⟨e, he⟩ := RS s1.heap vs out
 exact wpAny_pure ⟨_, rfl, h out ns' s1 _ e b1 (b2.trans a2) b3 a3 a4 a6 (fun b o q => Ol q) he⟩
end
section
variable {X : Cx} {e : Expr} {t : TA} {p pos p2 pos2 : Pos}
def tSS (X : Cx) (t : TA) : TE := fun σ H Q => t σ H fun xs H1 => ∃ (l : Addr) (ns : List Int), xs = [.ref l] ∧ SqL X.K H1 l (ns.map V.int) ∧ ns.length < 64 ∧ ∀ ks : List Int, ks.Pairwise (· ≤ ·) → ks.Nodup → (∀ z, z ∈ ks ↔ z ∈ ns) → ∀ l, H1 l = none → Q (.ref l) (upd H1 l (.lst (ks.map V.int)))
theorem GC (hc : X.calm = true) (hg : Gl X "sorted") (hm : X.mg "sorted" = none) (hg2 : Gl X "set") (hm2 : X.mg "set" = none) (ha : PA X [e] t) (he : autoParam (starEach [e] X.env = [(false, eval e X.env)]) zz3._auto_1) :
  PE X (.Call (.Name "sorted" p) [.Call (.Name "set" p2) [e] [] pos2] [] pos) (tSS X t) := by
 intro pins s σ H Q I h
 refine wpAny_Call_Name_kw (XZ I hg hm (u := .builtin "sorted") (by rfl) ?_ (by decide) (by decide))
 refine PyProof.Rows.callWith_builtin1 ?_ (by rfl) (by rfl)
 refine Calls.spliced_cons (wpAny_Call_Name_kw (XZ I hg2 hm2 (u := .type "set") (by rfl) ?_ (by decide) (by decide)))
 refine PyProof.Rows.callWith_type1 (thn (ha pos2 pins s σ H _ I h) fun us s1 ⟨vs, H1, I1, r1, q1⟩ => ?_) he (by rfl)
 obtain ⟨l, ns, rfl, hq, h64, q⟩ := q1
 obtain ⟨u, rfl, rx⟩ := vals1 r1
 cases rx
 obtain ⟨its, rv, pl, hz⟩ := I1.list hq
 have hi : IntsAre its ns := intsAre_of rv
 have hlen : its.length < 64 := by have := rv.length; rw [List.length_map] at this; omega
 refine set_list (I1.ok.hd hc) pl.isList (by simpa using hi) (by simpa using Nat.lt_trans (Nat.succ_lt_succ hlen) (by decide)) fun h' tk ks a1 a2 a3 a4 => ?_
 have k1 : ∀ b o, s1.heap.get? b = some o → h'.get? b = some o := fun b o q => a4 b o (Heap.lt_size q) q
 refine Calls.spliced_nil ?_
 refine EF (s := { s1 with heap := h', toks := tk }) (I1.ok.hd hc) a1 (by omega) fun out ns' s2 h2 e b1 b2 b3 b4 b5 b6 b7 b8 => ?_
 have I2 := I1.kept (t' := tk) k1
 have I3 : Inv X pins σ H1 s2 := I2.SK (ch := []) b5 (Un.kept b6) (I2.hok.kept b6) (by rw [b4]; exact I2.bare) (fun _ z => nomatch z)
 have hn : H1 s2.heap.objs.size = none := I3.hok.fresh (Nat.le_refl _)
 refine ⟨.ref s2.heap.objs.size, _, I3.laid (t' := s2.toks) (a := s2.heap.objs.size) (o := .lst (ns'.map V.int)) b7 (Nat.le_refl _) ⟨?_, out.toList, e, YL b1, b8⟩, rfl, q ns' b3 ?_ (fun z => (b2.mem_iff).trans (a2 z)) _ hn⟩
 ·rw [List.length_map, b2.length_eq, sizeLine_eq]
  omega
 ·exact b2.nodup_iff.mpr (SI.nodup a1)
def dSS (t : DTA) : DTE := fun Δ M Φ => t Δ M fun xs M1 => ∃ ns : List Int, J4 xs M1 ns ∧ ns.length < 64 ∧ ∀ ks : List Int, ks.Pairwise (· ≤ ·) → ks.Nodup → (∀ z, z ∈ ks ↔ z ∈ ns) → Φ (.dat (.list (ks.map PyData.int))) M1
theorem Zez (t : DTA) (Δ : DSt) (M : Mp) (Φ : DK) : dSS t Δ M Φ = (t Δ M fun xs M1 => ∃ ns : List Int, J4 xs M1 ns ∧ ns.length < 64 ∧ ∀ ks : List Int, ks.Pairwise (· ≤ ·) → ks.Nodup → (∀ z, z ∈ ks ↔ z ∈ ns) → Φ (.dat (.list (ks.map PyData.int))) M1) := propext Iff.rfl
theorem GI {t : DTA} (hg : Gl X "sorted") (hm : X.mg "sorted" = none) (hg2 : Gl X "set") (hm2 : X.mg "set" = none) (ha : DA X [e] t) (hc : autoParam (X.calm = true) zz3._auto_1) (he : autoParam (starEach [e] X.env = [(false, eval e X.env)]) zz3._auto_1) :
  DE X (.Call (.Name "sorted" p) [.Call (.Name "set" p2) [e] [] pos2] [] pos) (dSS t) := by
 obtain ⟨u, pa, q⟩ := ha
 refine ⟨_, GC hc hg hm hg2 hm2 pa he, fun σ H Δ M Φ Q r e h k => ?_⟩
 refine q σ H Δ M _ _ r e h fun vs H1 xs M1 r1 st rv hx => ?_
 obtain ⟨ns, hx, h64, q⟩ := hx
 obtain ⟨p, rfl, hs⟩ := hx.sq r1 rv
 exact ⟨p, ns, rfl, hs, h64, fun ks a b c l hl => (k.step st).dat (r1.new hl) (Step.new hl) (Dt.Vr r1 hl (Dts.ints ks)) (q ks a b c)⟩
end
end DL
namespace DL
open PySem PySem.Spec PyProof.Rows L2
section
variable {X : Cx}
def Zfd (τ : DTE) : DTT := fun Δ M Φ => τ Δ M fun x M1 => onQ x M1 fun ds => Φ (!ds.isEmpty) M1
theorem ZaU (τ : DTE) (Δ : DSt) (M : Mp) (Φ : Bool → Mp → Prop) : Zfd τ Δ M Φ = (τ Δ M fun x M1 => onQ x M1 fun ds => Φ (!ds.isEmpty) M1) := propext Iff.rfl
theorem KP {K : PySem.W.Frag} {M : Mp} {H : Hp} {vs : List V} {ds : List PyData} (h : Dts K M H vs ds) : (!vs.isEmpty) = !ds.isEmpty := by
 have := Dts.length h
 cases vs <;> cases ds <;> simp at this ⊢
theorem Rf {e : Expr} {τ : DTE} (h : DE X e τ) (he : autoParam (∀ whole, isTrue e X.env whole = (do let v ← whole; standAt e.pos; holding [v] (truthy v))) zz2._auto_1) : DT X e (Zfd τ) := by
 obtain ⟨t, p, q⟩ := h
 refine ⟨_, OB p he, fun σ H Δ M Φ Q dr e h k => ?_⟩
 refine q σ H Δ M _ _ dr e h fun v H1 x M1 r1 st rv hx => ?_
 replace hx := Gb hx
 obtain ⟨ds, hx, hq⟩ := hx
 refine ⟨!ds.isEmpty, ?_, k _ _ _ r1 st hq⟩
 rcases hx with rfl | rfl | ⟨l, rfl, hm⟩
 ·obtain ⟨p, xs, rfl, h1, h2⟩ := rv.tup
  exact .inr (.inl ⟨xs, h1.sq, (KP h2).symm⟩)
 ·obtain ⟨p, xs, rfl, h1, h2⟩ := rv.lst
  exact .inl ⟨xs, h1.sq, (KP h2).symm⟩
 ·cases (show v = .ref l from rv)
  obtain ⟨vs, g1, g2⟩ := r1.ls l ds hm
  exact .inl ⟨vs, SqL.of g1, (KP g2).symm⟩
end
end DL
namespace DL
open PySem PySem.Spec PyProof.Rows L2 PySem.W
structure Gives (it l : Addr) (xs : Array Value) (st : Nat → Heap → Prop) : Prop where
 frame : ∀ {i : Nat} {h h' : Heap}, st i h → (∀ b, b = it ∨ b = l → ∀ o, h.get? b = some o → h'.get? b = some o) → st i h'
 live : ∀ {i : Nat} {h : Heap}, st i h → ∃ o, h.get? it = some o
 item : ∀ {prog : Program} {w : World} {A : Around} {E : Value → Shared → Prop} {s : Shared} {Q : Value → Shared → Prop} {i : Nat} {x : Value}, st i s.heap → xs[i]? = some x →
  (∀ h', st (i + 1) h' → Heap.SameBut it s.heap h' → Q x { s with heap := h' }) → wpAny (model prog w) A (Builtin.SmallTypes.nextOf (.ref it)) Q E s
 done : ∀ {prog : Program} {w : World} {A : Around} {E : Value → Shared → Prop} {s : Shared} {Q : Value → Shared → Prop} {i : Nat}, A.handled = none → st i s.heap → xs[i]? = none →
  (∀ h' e, Heap.ExtBut it s.heap h' → (∃ o, h'.get? e = some o ∧ o.cls = .type "StopIteration") → E (.ref e) { s with heap := h' }) → wpAny (model prog w) A (Builtin.SmallTypes.nextOf (.ref it)) Q E s
theorem Wh {it l : Addr} (hne : l ≠ it) (xs : Array Value) : Gives it l xs fun i h => h.IsListIter it l i ∧ h.IsList l xs where
 frame := fun st k => ⟨st.1.at fun o e => k it (.inl rfl) o e, let ⟨o, ho, r⟩ := st.2; ⟨o, k l (.inr rfl) o ho, r⟩⟩
 live := fun st => let ⟨o, ho, _⟩ := st.1; ⟨o, ho⟩
 item := fun st hx hQ => wpAny_nextOf_list_item st.1 st.2 hx fun h' a b => hQ h' ⟨a, st.2.extBut b.extBut hne⟩ b
 done := fun hh st hx hE => wpAny_nextOf_list_end hh st.1 st.2 hx hE
theorem Ge {it l : Addr} (hne : l ≠ it) (xs : Array Value) : Gives it l xs fun i h => h.IsTupleIter it l i ∧ h.IsTuple l xs where
 frame := fun st k => ⟨let ⟨o, ho, r⟩ := st.1; ⟨o, k it (.inl rfl) o ho, r⟩, let ⟨o, ho, r⟩ := st.2; ⟨o, k l (.inr rfl) o ho, r⟩⟩
 live := fun st => let ⟨o, ho, _⟩ := st.1; ⟨o, ho⟩
 item := fun st hx hQ => YV st.1 st.2 hx fun h' a b => hQ h' ⟨a, st.2.extBut b.extBut hne⟩ b
 done := fun hh st hx hE => Xv hh st.1 st.2 hx hE
theorem J6 {b p l c : Addr} (hb : b = p ∨ b = l) (h1 : p ≠ c) (h2 : l ≠ c) : b ≠ c := hb.elim (fun e => e ▸ h1) fun e => e ▸ h2
def Zbc (a b c d : Addr) (h h' : Heap) : Prop := ∀ x o, x ≠ a → x ≠ b → x ≠ c → x ≠ d → h.get? x = some o → h'.get? x = some o
section
variable {prog : Program} {w : World} {A : Around} {E : Value → Shared → Prop} {s : Shared} {z TI TO p q l m : Addr} {xs ys : Array Value} {f g : Nat → Heap → Prop} {i j : Nat}
theorem L5 {x y a b : Value} {Q : Value → Shared → Prop} (D : ZipApart z TI TO p q l m) (G1 : Gives p l xs f) (G2 : Gives q m ys g) (hz : IsZip s.heap z TI TO .none) (hI : IsPair s.heap TI (.ref p) (.ref q)) (hO : IsPair s.heap TO a b)
  (h1 : f i s.heap) (h2 : g j s.heap) (hx : xs[i]? = some x) (hy : ys[j]? = some y)
  (hQ : ∀ h', IsZip h' z TI TO (rawInt s.heap.objs.size) → IsPair h' TO x y → f (i + 1) h' → g (j + 1) h' → IsPair h' s.heap.objs.size x y → h'.objs.size = s.heap.objs.size + 1 → Zbc z TO p q s.heap h' → Q (.ref s.heap.objs.size) { s with heap := h' }) :
  wpAny (model prog w) A (Builtin.«zip.__next__» ⟨[.ref z], []⟩) (fun r s' => ∃ v, r = .done (.ret v) ∧ Q v s') E s := by
 show wpAny _ _ (field (.ref z) 2 >>= _) _ _ s
 refine wpAny_bind (wpAny_field hz rfl (x := .bool false) rfl (show wpAny _ _ (field (.ref z) 3 >>= _) _ _ s from wpAny_bind (wpAny_field hz rfl (x := .ref TI) rfl (wpAny_bind (wpAny_seqItems hI rfl ?_)))))
 show wpAny _ _ (Builtin.SmallTypes.ownedTupleIsFree (.ref z) >>= _) _ _ s
 unfold Builtin.SmallTypes.ownedTupleIsFree
 refine wpAny_bind (wpAny_bind (wpAny_field hz rfl (x := .none) rfl (wpAny_pure ?_)))
 simp only [if_true]
 refine wpAny_bind (wpAny_rule (wpAny_bind (wpAny_field hz rfl (x := .ref TO) rfl (wpAny_bind (wpAny_setField_rec hz (by simp) fun ha za sa => wpAny_bind ?_)))))
 replace za : IsZip ha z TI TO .ellipsis := za
 simp only [List.zipIdx_cons, List.forIn_cons, List.zipIdx_nil, List.forIn_nil]
 have fa : f i ha := G1.frame h1 fun b hb o e => sa.extBut b o (J6 hb D.i1z D.l1z) e
 refine wpAny_bind (wpAny_bind (wpAny_onRaise (show wpAny _ _ (Builtin.SmallTypes.nextOf (.ref p) >>= _) _ _ _ from wpAny_bind (G1.item fa hx fun hb fb sb => wpAny_pure ?_))))
 have ob : IsPair hb TO a b := sb.extBut _ _ D.TOi1 (sa.extBut _ _ D.TOz hO)
 refine wpAny_bind (wpAny_seqItems ob rfl (wpAny_bind (wpAny_updateSeq_pair ob fun hc oc sc => wpAny_bind (wpAny_letGo (wpAny_pure ?_)))))
 replace oc : IsPair hc TO x b := oc
 have gc : g j hc := G2.frame h2 fun b hb o e => by
  have n1 : b ≠ z := J6 hb D.i2z D.l2z
  have n2 : b ≠ p := J6 hb D.i12.symm D.l2i1
  have n3 : b ≠ TO := J6 hb D.TOi2.symm D.l2TO
  exact sc.extBut b o n3 (sb.extBut b o n2 (sa.extBut b o n1 e))
 refine wpAny_bind (wpAny_bind (wpAny_onRaise (show wpAny _ _ (Builtin.SmallTypes.nextOf (.ref q) >>= _) _ _ _ from wpAny_bind (G2.item gc hy fun hd gd sd => wpAny_pure ?_))))
 have od : IsPair hd TO x b := sd.extBut _ _ D.TOi2 oc
 refine wpAny_bind (wpAny_seqItems od rfl (wpAny_bind (wpAny_updateSeq_pair od fun he oe se => wpAny_bind (wpAny_letGo (wpAny_pure (wpAny_pure ?_))))))
 replace oe : IsPair he TO x y := oe
 refine wpAny_bind (wpAny_seqItems oe rfl (wpAny_bind (wpAny_newTuple ?_)))
 have size : he.objs.size = s.heap.objs.size := by rw [se.1, sd.1, sc.1, sb.1, sa.1]
 have ze : IsZip he z TI TO .ellipsis := se.extBut _ _ D.TOz.symm (sd.extBut _ _ D.i2z.symm (sc.extBut _ _ D.TOz.symm (sb.extBut _ _ D.i1z.symm za)))
 have all : Zbc z TO p q s.heap he := fun c o c1 c2 c3 c4 e => se.extBut _ _ c2 (sd.extBut _ _ c4 (sc.extBut _ _ c2 (sb.extBut _ _ c3 (sa.extBut _ _ c1 e))))
 have fe : f (i + 1) he := G1.frame fb fun b hb o e => by
  have n3 : b ≠ TO := J6 hb D.TOi1.symm D.l1TO
  have n4 : b ≠ q := J6 hb D.i12 D.l1i2
  exact se.extBut b o n3 (sd.extBut b o n4 (sc.extBut b o n3 e))
 have ge : g (j + 1) he := G2.frame gd fun b hb o e => se.extBut b o (J6 hb D.TOi2.symm D.l2TO) e
 have zlt : z < he.objs.size := Heap.lt_size ze
 show wpAny _ _ (Builtin.SmallTypes.ownedTupleHandOut (.ref z) (.ref he.objs.size) >>= _) _ _ _
 unfold Builtin.SmallTypes.ownedTupleHandOut
 have zf : IsZip (he.push { cls := .type "tuple", data := .seq #[x, y] }) z TI TO .ellipsis := Heap.get?_push_of_some _ ze
 refine wpAny_bind (wpAny_bind (wpAny_setField_rec zf (by simp) fun hg zg sg => ?_))
 replace zg : IsZip hg z TI TO (rawInt he.objs.size) := zg
 refine wpAny_setField_rec zg (by simp) fun hk zk sk => wpAny_pure ⟨_, rfl, ?_⟩
 replace zk : IsZip hk z TI TO (rawInt he.objs.size) := zk
 have up : ∀ c o, c ≠ z → he.get? c = some o → hk.get? c = some o := fun c o c1 e => sk.extBut _ _ c1 (sg.extBut _ _ c1 (Heap.get?_push_of_some _ e))
 have new : IsPair hk he.objs.size x y := sk.extBut _ _ (Nat.ne_of_gt zlt) (sg.extBut _ _ (Nat.ne_of_gt zlt) (Heap.get?_push_size _ rfl))
 have one : hk.objs.size = he.objs.size + 1 := by rw [sk.1, sg.1, Heap.size_push]
 rw [size] at zk new one
 show Q (.ref he.objs.size) _
 rw [size]
 exact hQ hk zk (up _ _ D.TOz oe) (G1.frame fe fun b hb o e => up b o (J6 hb D.i1z D.l1z) e) (G2.frame ge fun b hb o e => up b o (J6 hb D.i2z D.l2z) e) new one fun c o c1 c2 c3 c4 e => up c o c1 (all c o c1 c2 c3 c4 e)
theorem Ni {a b : Value} {Q : Fin → Shared → Prop} (hh : A.handled = none) (D : ZipApart z TI TO p q l m) (G1 : Gives p l xs f) (G2 : Gives q m ys g) (hz : IsZip s.heap z TI TO .none) (hI : IsPair s.heap TI (.ref p) (.ref q)) (hO : IsPair s.heap TO a b)
  (h1 : f i s.heap) (h2 : g j s.heap) (hx : xs[i]? = none ∨ ys[j]? = none)
  (hE : ∀ h' e, Zbc z TO p q s.heap h' → (∃ o, h'.get? e = some o ∧ o.cls = .type "StopIteration") → E (.ref e) { s with heap := h' }) :
  wpAny (model prog w) A (Builtin.«zip.__next__» ⟨[.ref z], []⟩) Q E s := by
 show wpAny _ _ (field (.ref z) 2 >>= _) _ _ s
 refine wpAny_bind (wpAny_field hz rfl (x := .bool false) rfl (show wpAny _ _ (field (.ref z) 3 >>= _) _ _ s from wpAny_bind (wpAny_field hz rfl (x := .ref TI) rfl (wpAny_bind (wpAny_seqItems hI rfl ?_)))))
 show wpAny _ _ (Builtin.SmallTypes.ownedTupleIsFree (.ref z) >>= _) _ _ s
 unfold Builtin.SmallTypes.ownedTupleIsFree
 refine wpAny_bind (wpAny_bind (wpAny_field hz rfl (x := .none) rfl (wpAny_pure ?_)))
 simp only [if_true]
 refine wpAny_bind (wpAny_rule (wpAny_bind (wpAny_field hz rfl (x := .ref TO) rfl (wpAny_bind (wpAny_setField_rec hz (by simp) fun ha za sa => wpAny_bind ?_)))))
 replace za : IsZip ha z TI TO .ellipsis := za
 simp only [List.zipIdx_cons, List.forIn_cons, List.zipIdx_nil, List.forIn_nil]
 have fa : f i ha := G1.frame h1 fun b hb o e => sa.extBut b o (J6 hb D.i1z D.l1z) e
 have stop : ∀ (hv hw : Heap) (e : Addr), IsZip hv z TI TO .ellipsis → (∃ o, hv.get? e = some o ∧ o.cls = .type "StopIteration") → Heap.SameBut z hv hw → ∃ o, hw.get? e = some o ∧ o.cls = .type "StopIteration" := fun hv hw e zv ⟨o, ho, hc⟩ k =>
  ⟨o, k.extBut _ _ (fun x => by subst x; rw [zv] at ho; cases ho; simp at hc) ho, hc⟩
 cases qx : xs[i]? with
 | none =>
  refine wpAny_bind (wpAny_bind (wpAny_onRaise (show wpAny _ _ (Builtin.SmallTypes.nextOf (.ref p) >>= _) _ _ _ from wpAny_bind (G1.done hh fa qx fun hb e sb he => ?_))))
  have zb : IsZip hb z TI TO .ellipsis := sb _ _ D.i1z.symm za
  exact wpAny_setField_rec zb (by simp) fun hc _ sc => hE hc e (fun c o c1 _ c3 _ x => sc.extBut _ _ c1 (sb _ _ c3 (sa.extBut _ _ c1 x))) (stop hb hc e zb he sc)
 | some x =>
  have hy : ys[j]? = none := by
   rcases hx with hx | hx
   ·rw [qx] at hx; cases hx
   ·exact hx
  refine wpAny_bind (wpAny_bind (wpAny_onRaise (show wpAny _ _ (Builtin.SmallTypes.nextOf (.ref p) >>= _) _ _ _ from wpAny_bind (G1.item fa qx fun hb fb sb => wpAny_pure ?_))))
  have ob : IsPair hb TO a b := sb.extBut _ _ D.TOi1 (sa.extBut _ _ D.TOz hO)
  refine wpAny_bind (wpAny_seqItems ob rfl (wpAny_bind (wpAny_updateSeq_pair ob fun hc oc sc => wpAny_bind (wpAny_letGo (wpAny_pure ?_)))))
  have gc : g j hc := G2.frame h2 fun b hb o e => sc.extBut b o (J6 hb D.TOi2.symm D.l2TO) (sb.extBut b o (J6 hb D.i12.symm D.l2i1) (sa.extBut b o (J6 hb D.i2z D.l2z) e))
  refine wpAny_bind (wpAny_bind (wpAny_onRaise (show wpAny _ _ (Builtin.SmallTypes.nextOf (.ref q) >>= _) _ _ _ from wpAny_bind (G2.done hh gc hy fun hd e sd he => ?_))))
  have zd : IsZip hd z TI TO .ellipsis := sd _ _ D.i2z.symm (sc.extBut _ _ D.TOz.symm (sb.extBut _ _ D.i1z.symm za))
  exact wpAny_setField_rec zd (by simp) fun hk _ sk => hE hk e (fun c o c1 c2 c3 c4 x => sk.extBut _ _ c1 (sd _ _ c4 (sc.extBut _ _ c2 (sb.extBut _ _ c3 (sa.extBut _ _ c1 x))))) (stop hd hk e zd he sk)
theorem Xu {x y a b : Value} {Q : Option Value → Shared → Prop} (D : ZipApart z TI TO p q l m) (G1 : Gives p l xs f) (G2 : Gives q m ys g) (hz : IsZip s.heap z TI TO .none) (hI : IsPair s.heap TI (.ref p) (.ref q)) (hO : IsPair s.heap TO a b)
  (h1 : f i s.heap) (h2 : g j s.heap) (hx : xs[i]? = some x) (hy : ys[j]? = some y)
  (hQ : ∀ h', IsZip h' z TI TO (rawInt s.heap.objs.size) → IsPair h' TO x y → f (i + 1) h' → g (j + 1) h' → IsPair h' s.heap.objs.size x y → h'.objs.size = s.heap.objs.size + 1 → Zbc z TO p q s.heap h' → Q (some (.ref s.heap.objs.size)) { s with heap := h' }) :
  wpAny (model prog w) A (pyNext (.ref z)) Q E s := by
 have ty : s.TypeIs (.ref z) "zip" := ⟨_, hz, rfl⟩
 unfold pyNext
 refine wpAny_bind (wpAny_attempt (wpAny_callSpecial?_slot (name := Str.ofString "__next__") ty F.slot_zip_next (wpAny_call_entry F.slot_zip_next ty F.entry_zip_next ?_ (F.args_zip_next_1 _))))
 exact L5 D G1 G2 hz hI hO h1 h2 hx hy fun h' a1 a2 a3 a4 a5 a6 a7 => wpAny_pure (hQ h' a1 a2 a3 a4 a5 a6 a7)
theorem X4 {a b : Value} {Q : Option Value → Shared → Prop} (hh : A.handled = none) (D : ZipApart z TI TO p q l m) (G1 : Gives p l xs f) (G2 : Gives q m ys g) (hz : IsZip s.heap z TI TO .none) (hI : IsPair s.heap TI (.ref p) (.ref q)) (hO : IsPair s.heap TO a b)
  (h1 : f i s.heap) (h2 : g j s.heap) (hx : xs[i]? = none ∨ ys[j]? = none) (hQ : ∀ h', Zbc z TO p q s.heap h' → Q none { s with heap := h' }) : wpAny (model prog w) A (pyNext (.ref z)) Q E s := by
 have ty : s.TypeIs (.ref z) "zip" := ⟨_, hz, rfl⟩
 unfold pyNext
 refine wpAny_bind (wpAny_attempt (wpAny_callSpecial?_slot (name := Str.ofString "__next__") ty F.slot_zip_next (wpAny_call_entry F.slot_zip_next ty F.entry_zip_next ?_ (F.args_zip_next_1 _))))
 refine Ni hh D G1 G2 hz hI hO h1 h2 hx fun h' e k ⟨o, ho, hc⟩ => ?_
 exact wpAny_bind (wpAny_isInstance (T := "StopIteration") (b := true) ⟨o, ho, hc⟩ isSubtype_stop (wpAny_pure (hQ _ k)))
end
noncomputable abbrev zt1 (h : Heap) (l : Addr) : Heap := h.push { cls := .type "tuple_iterator", data := .fields #[.ref l, .int 0 0] }
noncomputable abbrev zt2 (h : Heap) (l m : Addr) : Heap := (zt1 h l).push { cls := .type "list_iterator", data := .fields #[.ref m, .int 0 0] }
noncomputable abbrev zt3 (h : Heap) (l m : Addr) : Heap := (zt2 h l m).push { cls := .type "tuple", data := .seq #[.ref h.objs.size, .ref (zt1 h l).objs.size] }
noncomputable abbrev zt4 (h : Heap) (l m : Addr) : Heap := (zt3 h l m).push { cls := .type "tuple", data := .seq #[.none, .none] }
noncomputable abbrev zt5 (h : Heap) (l m : Addr) : Heap := (zt4 h l m).push { cls := .type "zip", data := .fields #[.none, .bool false, .bool false, .ref (zt2 h l m).objs.size, .ref (zt3 h l m).objs.size] }
theorem D5 (l m : Addr) (xs ys : Array Value) : Meets (Builtin.«zip.__new__» ⟨[.type "zip", .ref l, .ref m], []⟩) (fun _ R s => s.heap.IsTuple l xs ∧ s.heap.IsList m ys ∧ R (.ok (.ret (.ref (zt4 s.heap l m).objs.size))) { s with heap := zt5 s.heap l m }) :=
 .of_wp fun prog w A R s h => by
  obtain ⟨hp, g, d, tk, os⟩ := s
  obtain ⟨hl, hm, h⟩ := h
  have hsub := sub_zip
  have tl : Heap.IsTuple (Shared.heap ⟨hp, g, d, tk, os⟩) l xs := hl
  have tm : Heap.IsList (Shared.heap ⟨hp.push { cls := .type "tuple_iterator", data := .fields #[.ref l, .int 0 0] }, g, d, tk, os⟩) m ys := Heap.IsList.push hm _
  wp_walk using wpAny_pyIter_tuple tl, wpAny_pyIter_list tm
  exact ⟨_, rfl, h⟩
section
variable {prog : Program} {w : World} {A : Around} {E : Value → Shared → Prop} {s : Shared}
theorem FZ {l m : Addr} {xs ys : Array Value} {Q : Value → Shared → Prop} (hl : s.heap.IsTuple l xs) (hm : s.heap.IsList m ys)
  (h : ∀ (h' : Heap) (n : Nat), n = s.heap.objs.size → IsZip h' (n + 4) (n + 2) (n + 3) .none → IsPair h' (n + 2) (.ref n) (.ref (n + 1)) → IsPair h' (n + 3) .none .none → h'.IsTupleIter n l 0 → h'.IsListIter (n + 1) m 0 →
   (∀ c o, s.heap.get? c = some o → h'.get? c = some o) → Q (.ref (n + 4)) { s with heap := h' }) : wpAny (model prog w) A (call (.type "zip") [.ref l, .ref m]) Q E s := by
 refine callType_new F.called_zip (by decide) (F.typeCall_zip_2 _ _) (F.newCall_zip_2 _ _) (fun obj => F.args_object_init_3 obj _ _) F.entry_zip_new (D5 l m xs ys) ⟨hl, hm, ?_⟩
 have a1 : (zt1 s.heap l).objs.size = s.heap.objs.size + 1 := Heap.size_push ..
 have a2 : (zt2 s.heap l m).objs.size = s.heap.objs.size + 2 := by rw [Heap.size_push, a1]
 have a3 : (zt3 s.heap l m).objs.size = s.heap.objs.size + 3 := by rw [Heap.size_push, a2]
 have a4 : (zt4 s.heap l m).objs.size = s.heap.objs.size + 4 := by rw [Heap.size_push, a3]
 have up : ∀ c o, (zt2 s.heap l m).get? c = some o → (zt5 s.heap l m).get? c = some o := fun c o e => Heap.get?_push_of_some _ (Heap.get?_push_of_some _ (Heap.get?_push_of_some _ e))
 have b5 : (zt5 s.heap l m).get? (zt4 s.heap l m).objs.size = some _ := Heap.get?_push_size _ rfl
 have b4 : (zt5 s.heap l m).get? (zt3 s.heap l m).objs.size = some _ := Heap.get?_push_of_some _ (Heap.get?_push_size _ rfl)
 have b3 : (zt5 s.heap l m).get? (zt2 s.heap l m).objs.size = some _ := Heap.get?_push_of_some _ (Heap.get?_push_of_some _ (Heap.get?_push_size _ rfl))
 have b2 : (zt5 s.heap l m).get? (zt1 s.heap l).objs.size = some _ := up _ _ (Heap.get?_push_size _ rfl)
 have b1 : (zt5 s.heap l m).get? s.heap.objs.size = some _ := up _ _ (Heap.get?_push_of_some _ (Heap.get?_push_size _ rfl))
 show _ ∧ _
 rw [a2, a3, a4] at b5
 rw [a1, a2] at b3
 rw [a3] at b4
 rw [a1] at b2
 rw [a4]
 exact ⟨⟨_, b5, rfl⟩, h _ _ rfl b5 b3 b4 ⟨_, b1, rfl, rfl⟩ ⟨_, b2, rfl, rfl⟩ fun c o x => up c o (Heap.get?_push_of_some _ (Heap.get?_push_of_some _ x))⟩
end
noncomputable def Zfl (K : PySem.W.Frag) (a b : Addr) : It :=
  ⟨fun i H => ∃ xs ys x y, SqT K H a xs ∧ xs[i]? = some x ∧ SqL K H b ys ∧ ys[i]? = some y,
   fun i H v H' => ∃ T x y, (∀ xs, SqT K H a xs → xs[i]? = some x) ∧ (∀ ys, SqL K H b ys → ys[i]? = some y) ∧ H T = none ∧ v = .ref T ∧ H' = upd H T (.tup [x, y]),
   fun i H => ∃ xs ys, SqT K H a xs ∧ SqL K H b ys ∧ (xs.length ≤ i ∨ ys.length ≤ i)⟩
def Zgu (a b : Addr) (n : Nat) (i : Nat) (h : Heap) : Prop :=
 IsZip h (n + 4) (n + 2) (n + 3) .none ∧ IsPair h (n + 2) (.ref n) (.ref (n + 1)) ∧ (∃ u v, IsPair h (n + 3) u v) ∧ h.IsTupleIter n a i ∧ h.IsListIter (n + 1) b i
theorem CL {a b n : Nat} (ha : a < n) (hb : b < n) : ZipApart (n + 4) (n + 2) (n + 3) n (n + 1) a b := by
 constructor <;> (intro e; change (_ : Nat) = _ at e; omega)
theorem EW {P : Program} {w : World} {K : PySem.W.Frag} {elts : List Expr} {x1 : Nat} {pos : Pos} {a b : Addr} {n : Nat} (ha : a < n) (hb : b < n) : Turn P w K (.Tuple elts x1 pos) (Zfl K a b) [n + 4, n + 2, n + 3, n, n + 1] (n + 4) (Zgu a b n) where
 mem := by simp
 obj := fun i h st c hc => by
  obtain ⟨hz, h2, ⟨u, v, h3⟩, ⟨o0, h0, _, d0⟩, ⟨o1, h1, _, d1⟩⟩ := st
  simp only [List.mem_cons, List.not_mem_nil, or_false] at hc
  rcases hc with rfl | rfl | rfl | rfl | rfl
  ·exact ⟨_, hz, fun v z => nomatch z⟩
  ·exact ⟨_, h2, fun v z => nomatch z⟩
  ·exact ⟨_, h3, fun v z => nomatch z⟩
  ·exact ⟨_, h0, fun v z => by rw [d0] at z; cases z⟩
  ·exact ⟨_, h1, fun v z => by rw [d1] at z; cases z⟩
 keep := fun i h h' st k => by
  obtain ⟨hz, h2, ⟨u, v, h3⟩, ⟨o0, h0, r0⟩, h1⟩ := st
  exact ⟨k _ (by simp) _ hz, k _ (by simp) _ h2, ⟨u, v, k _ (by simp) _ h3⟩, ⟨o0, k _ (by simp) _ h0, r0⟩, h1.at fun o e => k _ (by simp) o e⟩
 item := by
  intro X hP hw hK hc i pins s σ H E I hf st hg
  subst hP hw hK
  obtain ⟨xs, ys, x, y, hq, hx, hr, hy⟩ := hg
  obtain ⟨its, rv, p, hz⟩ := I.tuple hq
  obtain ⟨jts, rw', p', hz'⟩ := I.list hr
  obtain ⟨u, hu, ru⟩ := rv.get hx
  obtain ⟨v, hv, rv2⟩ := rw'.get hy
  have hA : s.heap.IsTuple a its.toArray := p
  have hB : s.heap.IsList b jts.toArray := p'.isList
  obtain ⟨tz, t2, ⟨c, d, t3⟩, t0, t1⟩ := st
  have D := CL ha hb
  refine Xu D (Ge D.l1i1 its.toArray) (Wh D.l2i2 jts.toArray) tz t2 t3 ⟨t0, hA⟩ ⟨t1, hB⟩ (x := u) (y := v) (by simpa using hu) (by simpa using hv) fun h' z1 z2 z3 z4 z5 z6 z7 => ⟨_, rfl, ?_⟩
  refine wpAny_letOwnedTupleGo_zip z1 fun h2 hz2 hs2 => ?_
  have zl : n + 4 < s.heap.objs.size := Heap.lt_size tz
  have hTn : H s.heap.objs.size = none := I.hok.fresh (Nat.le_refl _)
  have g2 : h2.get? s.heap.objs.size = some { cls := .type "tuple", data := .seq #[u, v] } := (hs2.2 _ (Nat.ne_of_gt zl)).trans z5
  have IA : L2.Inv X pins σ (upd H s.heap.objs.size (.tup [x, y])) { s with heap := s.heap.push { cls := .type "tuple", data := .seq #[u, v] }, toks := s.toks } :=
   I.laid (t' := s.toks) (o := .tup [x, y]) (fun b ob q => Heap.get?_push_of_some _ q) (Nat.le_refl _) ⟨by rw [sizeLine_eq]; exact (by decide : 2 ≤ 16777216), [u, v], .cons ru (.cons rv2 .nil), IsTup.new _ _⟩
  have fN : ∀ c ∈ [n + 4, n + 2, n + 3, n, n + 1], UQ X pins (upd H s.heap.objs.size (.tup [x, y])) c := fun c hc => by
   have f := hf c hc
   refine ⟨?_, f.2⟩
   have hlt : c < s.heap.objs.size := by
    simp only [List.mem_cons, List.not_mem_nil, or_false] at hc
    rcases hc with rfl | rfl | rfl | rfl | rfl <;> omega
   rw [ZL (Nat.ne_of_lt hlt)]
   exact f.1
  have I2 : L2.Inv X pins σ (upd H s.heap.objs.size (.tup [x, y])) { s with heap := h2, toks := s.toks } := Cw (s := { s with heap := s.heap.push { cls := .type "tuple", data := .seq #[u, v] }, toks := s.toks }) (t' := s.toks) (ch := [n + 4, n + 2, n + 3, n, n + 1]) IA (fun c o hc q => by
   have q' : (s.heap.push { cls := .type "tuple", data := .seq #[u, v] }).get? c = some o := q
   have n4 : c ≠ n + 4 := fun z => hc (by simp [z])
   by_cases hT : c = s.heap.objs.size
   ·rw [hT, Heap.get?_push_size _ rfl] at q'
    rw [hT, g2]
    exact q'
   ·have q2 : s.heap.get? c = some o := by
     rw [← q']
     exact (Heap.get?_push_ne _ _ _ hT).symm
    exact (hs2.2 c n4).trans (z7 c o n4 (fun z => hc (by simp [z])) (fun z => hc (by simp [z])) (fun z => hc (by simp [z])) q2)) fN
  refine ⟨.ref s.heap.objs.size, _, I2, rfl, ⟨_, x, y, fun zs hy => by rw [I.GN hy hq]; exact hx, fun zs hx => by rw [I.CG hx hr]; exact hy, hTn, rfl, rfl⟩, ?_, fun b hb => (fN b hb).1⟩
  have e2 : h'.get? (n + 2) = _ := z7 (n + 2) _ (zn (by decide)) (zn (by decide)) (zn0 (by decide)) (zn (by decide)) t2
  obtain ⟨o0, y0, r0⟩ := z3.1
  exact ⟨hz2, (hs2.2 _ (zn (by decide))).trans e2, ⟨u, v, (hs2.2 _ (zn (by decide))).trans z2⟩, ⟨o0, (hs2.2 _ (zn0 (by decide)).symm).trans y0, r0⟩, z4.1.at fun o e => (hs2.2 _ (zn (by decide))).trans e⟩
 done := by
  intro X hP hw hK hc i pins s σ H E I hf st hg
  subst hP hw hK
  obtain ⟨xs, ys, hq, hr, hl⟩ := hg
  obtain ⟨its, rv, p, hz⟩ := I.tuple hq
  obtain ⟨jts, rw', p', hz'⟩ := I.list hr
  have hA : s.heap.IsTuple a its.toArray := p
  have hB : s.heap.IsList b jts.toArray := p'.isList
  obtain ⟨tz, t2, ⟨c, d, t3⟩, t0, t1⟩ := st
  have D := CL ha hb
  have l1 := rv.length
  have l2 := rw'.length
  refine X4 (show X.A.handled = none from I.ok.hd hc) D (Ge D.l1i1 its.toArray) (Wh D.l2i2 jts.toArray) tz t2 t3 ⟨t0, hA⟩ ⟨t1, hB⟩ (hl.imp (fun h => by simp; omega) fun h => by simp; omega) fun h' hk => ?_
  exact ⟨rfl, Cw (t' := s.toks) (ch := [n + 4, n + 2, n + 3, n, n + 1]) I (fun c o hb q => hk c o (fun z => hb (by simp [z])) (fun z => hb (by simp [z])) (fun z => hb (by simp [z])) (fun z => hb (by simp [z])) q) fun b hb => hf b hb⟩
 self := fun _ _ _ _ _ st h => wpAny_pyIter_zip st.1 h
section
variable {X : Cx}
def Zeu (K : PySem.W.Frag) (ta : TA) : TI := fun σ H R => ta σ H fun vs H1 => ∃ a b, vs = [.ref a, .ref b] ∧ (∃ xs, SqT K H1 a xs) ∧ (∃ ys, SqL K H1 b ys) ∧ R (Zfl K a b) H1
theorem Ri {a b : Expr} {elts : List Expr} {x1 : Nat} {tp : Pos} {ta : TA} {p pos : Pos} (hg : Gl X "zip") (hm : X.mg "zip" = none) (ha : PA X [a, b] ta) (hs : autoParam (starEach [a, b] X.env = [(false, eval a X.env), (false, eval b X.env)]) zz3._auto_1) (hs2 : autoParam (starEach [b] X.env = [(false, eval b X.env)]) zz3._auto_1) : PI X (.Tuple elts x1 tp) (.Call (.Name "zip" p) [a, b] [] pos) (Zeu X.K ta) := by
 intro pins s σ H R I h
 refine Call_ (XZ I hg hm boot_zip (PyProof.Rows.callWith_type1 (thn (ha pos pins s σ H _ I h) fun us s1 ⟨vs, H1, I1, r1, q1⟩ => ?_) (by rw [hs, hs2]) (by rw [hs2]; rfl)))
 obtain ⟨l, m, e, ⟨xs, hq⟩, ⟨ys, hr⟩, q⟩ := q1
 subst e
 cases r1 with
 | cons r rr =>
  cases rr with
  | cons r' rr =>
   cases rr
   cases r
   cases r'
   obtain ⟨its, rv, pt, hz⟩ := I1.tuple hq
   obtain ⟨jts, rw', pt', hz'⟩ := I1.list hr
   have hA : s1.heap.IsTuple l its.toArray := pt
   refine FZ hA pt'.isList fun h' n en z1 z2 z3 z4 z5 hk => ?_
   have I2 : L2.Inv X pins σ H1 { s1 with heap := h' } := I1.kept (t' := s1.toks) hk
   refine wpAny_pyIter_zip z1 ?_
   refine ⟨n + 4, [n + 4, n + 2, n + 3, n, n + 1], _, _, H1, rfl, I2, EW (a := l) (b := m) (n := n) ?_ ?_, ⟨z1, z2, ⟨_, _, z3⟩, z4, z5⟩, fun c hc => ?_, q⟩
   ·obtain ⟨o, ho, _⟩ := hA
    rw [en]
    exact Heap.lt_size ho
   ·obtain ⟨o, ho, _⟩ := pt'.isList
    rw [en]
    exact Heap.lt_size ho
   ·have hle : s1.heap.objs.size ≤ c := by
     simp only [List.mem_cons, List.not_mem_nil, or_false] at hc
     rcases hc with rfl | rfl | rfl | rfl | rfl <;> omega
    exact I1.S3 hle (I1.hok.fresh hle)
def Zbg (ta : DTA) : Yu := fun Δ M Ψ => ta Δ M fun xs M1 => on2 xs fun x y => onT x fun as => onL y fun bs => Ψ (OE as bs) M1
theorem RC (ta : DTA) (Δ : DSt) (M : Mp) (Ψ : List PyData → Mp → Prop) : Zbg ta Δ M Ψ = (ta Δ M fun xs M1 => on2 xs fun x y => onT x fun as => onL y fun bs => Ψ (OE as bs) M1) := propext Iff.rfl
theorem L7 {a b : Expr} {elts : List Expr} {x1 : Nat} {tp : Pos} {ta : DTA} {p p2 : Pos} (hg0 : Gl X "zip") (hm : X.mg "zip" = none) (ha : DA X [a, b] ta) (hs : autoParam (starEach [a, b] X.env = [(false, eval a X.env), (false, eval b X.env)]) zz3._auto_1) (hs2 : autoParam (starEach [b] X.env = [(false, eval b X.env)]) zz3._auto_1) :
  DI X (.Tuple elts x1 tp) (.Call (.Name "zip" p) [a, b] [] p2) (Zbg ta) := by
 obtain ⟨t1, p1, q1⟩ := ha
 refine ⟨_, Ri hg0 hm p1 hs hs2, fun σ H Δ M Ψ R dr er h k => ?_⟩
 refine q1 σ H Δ M _ _ dr er h fun vs H1 xs M1 r1 st rv hx => ?_
 replace hx := Zx hx
 obtain ⟨x, y, rfl, hx⟩ := hx
 replace hx := YE hx
 obtain ⟨as, rfl, hx⟩ := hx
 replace hx := K8 hx
 obtain ⟨bs, rfl, hΨ⟩ := hx
 obtain ⟨v, u, rfl, hv, hu⟩ := Paired.two rv
 obtain ⟨a, ys, rfl, h1, h2⟩ := hv.tup
 obtain ⟨b, zs, rfl, h3, h4⟩ := hu.lst
 have el : (OE as bs).length = min as.length bs.length := by unfold OE; rw [List.length_zipWith]
 refine ⟨a, b, rfl, ⟨ys, h1.sq⟩, ⟨zs, h3.sq⟩, k _ H1 M1 _ r1 st (fun M2 H2 st2 i => ⟨fun hi => ?_, fun hi => ?_⟩) hΨ⟩
 ·rw [el] at hi
  have hx : i < ys.length := by rw [h2.length]; omega
  have hy : i < zs.length := by rw [h4.length]; omega
  refine ⟨⟨ys, zs, ys[i], zs[i], (h1.step st2).sq, by simp [hx], (h3.step st2).sq, by simp [hy]⟩, fun y H' z => ?_⟩
  obtain ⟨T, u, v, hu, hv, hT, rfl, rfl⟩ := z
  intro r
  obtain ⟨d, hd, hy⟩ := (h2.step st2).N3 (hu ys (h1.step st2).sq)
  obtain ⟨d', hd', hy'⟩ := (h4.step st2).N3 (hv zs (h3.step st2).sq)
  exact ⟨r.new hT, Step.new hT, _, OG hd hd', Dt.XQ r hT (.cons hy (.cons hy' .nil))⟩
 ·rw [el] at hi
  exact ⟨ys, zs, (h1.step st2).sq, (h3.step st2).sq, by rw [h2.length, h4.length]; omega⟩
end
end DL
namespace DL
open PySem PySem.Spec PyProof.Rows L2 PySem.W
section
variable {X : Cx} {tg iter : Expr} {g : DTG} {tb : DTS} {body : List Stmt} {pos : Pos}
def ZcL (src : Yu) (g : DTG) (tb : DTS) : DTS := fun D Δ M => src Δ M fun ds M1 => B3 g tb D ds Δ M1
theorem SA (src : Yu) (g : DTG) (tb : DTS) (D : QD) (Δ : DSt) (M : Mp) : ZcL src g tb D Δ M = (src Δ M fun ds M1 => B3 g tb D ds Δ M1) := propext Iff.rfl
theorem Ld {src : Yu} (hi : DI X tg iter src) (hg : DG X tg g) (hb : DSs X body tb) (hp : PassesOwn (model X.prog X.w) X.A X.env X.xe) (hc : X.calm = true) (hs : autoParam (∀ x, foldedSetIterable iter X.env x = pure x) zz2._auto_1) :
  DS X (.For tg iter body [] pos) (ZcL src g tb) := by
 obtain ⟨wi, p1, q1⟩ := hi
 obtain ⟨t2, p2, q2⟩ := hg
 obtain ⟨t3, p3, q3⟩ := hb
 refine ⟨_, Dl hp hc p1 p2 p3 hs, fun σ H Δ M D E r e h k => ?_⟩
 refine q1 σ H Δ M _ _ r e h fun J H1 M1 ds r1 st yl hx => ?_
 obtain ⟨I, j0, jt, jd⟩ := hx
 refine ⟨fun i m σ H => (∃ Δ M, ZX X.K M H ∧ Step M1 H1 M H ∧ Jn X.K M H σ Δ ∧ I i Δ M) ∧ i + m = ds.length, ⟨ds.length, ⟨Δ, M1, r1, Step.refl, e.step st, j0⟩, Nat.zero_add _⟩, fun i m σ H hW => ?_⟩
 obtain ⟨⟨Δ, M, r', st', e', j⟩, hm⟩ := hW
 by_cases hi : i < ds.length
 ·obtain ⟨go, yd⟩ := (yl M H st' i).1 hi
  refine .inr ⟨go, fun σ' H' => ∃ Δ' M', ZX X.K M' H' ∧ Step M1 H1 M' H' ∧ Jn X.K M' H' σ' Δ' ∧ I (i + 1) Δ' M', fun σ' H' h => ⟨m - 1, by omega, h, by omega⟩, fun x H' hy => ?_⟩
  obtain ⟨r2, st2, d, hd, hv⟩ := yd x H' hy r'
  refine q2 x σ H' (.dat d) Δ M _ _ r2 (e'.step st2) hv (jt i d Δ M hd j) fun σ3 H3 Δ3 M3 r3 st3 e3 hb3 => ?_
  refine q3 σ3 H3 Δ3 M3 _ _ r3 e3 hb3 ?_
  have s12 : Step M1 H1 M3 H3 := (st'.trans st2).trans st3
  exact ⟨fun σ' H' Δ' M' a b c d => ⟨Δ', M', a, s12.trans b, c, d⟩, k.rt.step (st.trans s12), fun σ' H' Δ' M' a b c d => k.nx σ' H' Δ' M' a ((st.trans s12).trans b) c d,
   fun σ' H' Δ' M' a b c d => ⟨Δ', M', a, s12.trans b, c, d⟩⟩
 ·have ei : i = ds.length := by omega
  refine .inl ⟨(yl M H st' i).2 (by omega), ?_⟩
  rw [ei] at j
  exact k.nx σ H Δ M r' (st.trans st') e' (jd Δ M j)
def ZbH (K : PySem.W.Frag) : V → List V → Hp → VK → Prop := fun x vs H Q => ∃ (l : Addr) (ss : List Str) (t : Str), x = .ref l ∧ vs = [V.str t] ∧ SqL K H l (List.map V.str ss) ∧ t ∈ ss ∧ Q (.int (ss.idxOf t : Nat)) H
theorem TB {ss : List Str} : ∀ {us : List Value}, Vals (ss.map V.str) us → us.length = ss.length ∧ ∀ (j : Nat) (v : Value) (t : Str), us[j]? = some v → ss[j]? = some t → ∃ k, v = Value.str t k := by
 induction ss with
 | nil =>
  intro us r
  rw [List.map_nil] at r
  cases r
  exact ⟨rfl, fun j v t h => by cases h⟩
 | cons a ss ih =>
  intro us r
  rw [List.map_cons] at r
  cases r with
  | cons r1 r2 =>
   obtain ⟨t0, rfl⟩ := r1
   obtain ⟨h1, h2⟩ := ih r2
   refine ⟨by simp [h1], fun j v t hv ht => ?_⟩
   cases j with
   | zero => cases hv; cases ht; exact ⟨t0, rfl⟩
   | succ j => exact h2 j v t hv ht
theorem Mh : MtR X "list.index" (ZbH X.K) := by
 intro pins s σ H x xs v us Q I rx rs h
 obtain ⟨l, ss, t, rfl, rfl, hq, ht, q⟩ := h
 cases rx
 obtain ⟨u, rfl, ru⟩ := vals1 rs
 obtain ⟨tk, rfl⟩ := ru
 obtain ⟨its, rv, pl, hz⟩ := I.list hq
 obtain ⟨hlen, hat⟩ := TB rv
 obtain ⟨⟨cls, dd, data, sl⟩, ho, hcl, n, hd⟩ := id pl.isList
 simp only at hcl hd
 subst hcl hd
 have hj : ss.idxOf t < ss.length := List.idxOf_lt_length_iff.mpr ht
 let e : Value → Bool := fun v => match v with | .str a _ => a == t | _ => false
 have ee : ∀ j (h : j < its.length) (h2 : j < ss.length), e its[j] = (ss[j] == t) := fun j h h2 => by
  obtain ⟨k, hk⟩ := hat j its[j] ss[j] (List.getElem?_eq_getElem h) (List.getElem?_eq_getElem h2)
  rw [hk]
 have hsz : its.length ≤ sizeLine := by rw [hlen]; simpa using hz
 refine call_meets PySem.F.slot_list_index ⟨_, ho, rfl⟩ PySem.F.entry_list_index (PySem.F.args_list_index_2 _ _)
  (PySem.SeqAt.list_indexAt l its.toArray n dd sl (.str t tk) e (ss.idxOf t) (by simpa [hlen] using hj) (by rw [sizeLine_eq] at hsz; omega) ?_ ?_) ⟨ho, fun y hy => ?_, ?_⟩
 ·show e its[ss.idxOf t] = true
  rw [ee _ (by omega) hj]
  simp
 ·intro j h1 h2
  have h1 : j < its.length := by simpa using h1
  show e its[j] = false
  rw [ee j h1 (by omega)]
  exact List.not_of_lt_findIdx h2
 ·obtain ⟨j, hj, rfl⟩ := List.mem_iff_getElem.mp (by simpa using hy : y ∈ its)
  obtain ⟨k, hk⟩ := hat j its[j] (ss[j]'(by omega)) (List.getElem?_eq_getElem hj) (List.getElem?_eq_getElem (by omega))
  rw [ee j hj (by omega), hk]
  exact PySem.SeqAt.EqAt.str_str _ _ _ _
 ·exact ⟨.int _, H, I.tok _, ⟨_, rfl⟩, q⟩
def G3 (ds : List PyData) (P : List Str → Prop) : Prop := ∃ ss, ds = ss.map PyData.str ∧ P ss
theorem Dr {K : PySem.W.Frag} {M : Mp} {H : Hp} : ∀ {vs : List V} {ss : List Str}, Dts K M H vs (ss.map PyData.str) → vs = ss.map V.str
 | vs, [], h => by
  rw [List.map_nil] at h
  cases h
  rfl
 | vs, n :: ns, h => by
  rw [List.map_cons] at h
  cases h with
  | cons h1 h2 =>
   cases h1
   rw [Dr h2, List.map_cons]
def Zfg (to te : DTE) : DTE := fun Δ M Φ => to Δ M fun x M1 => onL x fun ds => te Δ M1 fun y M2 => onS y fun t => G3 ds fun ss => t ∈ ss ∧ Φ (.dat (.int (ss.idxOf t : Nat))) M2
theorem Zcz (to te : DTE) (Δ : DSt) (M : Mp) (Φ : DK) : Zfg to te Δ M Φ = (to Δ M fun x M1 => onL x fun ds => te Δ M1 fun y M2 => onS y fun t => G3 ds fun ss => t ∈ ss ∧ Φ (.dat (.int (ss.idxOf t : Nat))) M2) := propext Iff.rfl
theorem MP {o e : Expr} {to te : DTE} {apos cpos : Pos} (ho : DE X o to) (he : DE X e te) (hbase : autoParam (attributeBase o "index" X.env (eval o X.env) = eval o X.env) zz3._auto_1)
  (hfew : autoParam (((backTo cpos (starEach [e] X.env)).all (fun x => !x.1) && (backToKw cpos (keywordEach [] X.env)).all (fun x => x.1.isSome) && decide ([e].length + ([] : List Keyword).length + (if ([] : List Keyword).isEmpty then 0 else 1) < 30)) = true) zz3._auto_1)
  (hline : autoParam ((apos.endLine == cpos.line) = true) zz3._auto_1) (hs : autoParam (starEach [e] X.env = (false, eval e X.env) :: starEach [] X.env) zz3._auto_1) (hplain : autoParam ((backTo cpos (starEach [] X.env)).any (·.1) = false) zz3._auto_1) :
  DE X (.Call (.Attribute o "index" apos) [e] [] cpos) (Zfg to te) := by
 obtain ⟨t1, p1, q1⟩ := ho
 obtain ⟨t2, p2, q2⟩ := he
 refine ⟨_, S8 PySem.F.plainAttrs_list PySem.F.slot_list_index PySem.F.type_list_index Mh p1 (UI p2 Ct hs) hbase hfew hline hs hplain, fun σ H Δ M Φ Q r e h k => ?_⟩
 refine q1 σ H Δ M _ _ r e h fun v H1 x M1 r1 st rv hx => ?_
 replace hx := K8 hx
 obtain ⟨ds, rfl, hx⟩ := hx
 obtain ⟨a, xs, rfl, h1, h2⟩ := rv.lst
 refine ⟨.inl ⟨rfl, _, h1.sq⟩, q2 σ H1 Δ M1 _ _ r1 (e.step st) hx fun w H2 y M2 r2 st2 rw2 hy => ?_⟩
 replace hy := Zb2 hy
 obtain ⟨t, rfl, ss, rfl, ht, hy⟩ := hy
 cases rw2.str
 cases Dr h2
 exact ⟨a, ss, t, rfl, rfl, (h1.step st2).sq, ht, k.dat r2 (st.trans st2) (Dt.int _) hy⟩
def Zad (x : DV) (P : List PyData → Prop) : Prop := match x with | .dat (.tuple ds) => P ds | .dat (.list ds) => P ds | _ => False
def iTL (K : PySem.W.Frag) (tl : TE) : TI := fun σ H R => tl σ H fun x H1 => ∃ a, x = .ref a ∧ (((∃ xs, SqL K H1 a xs) ∧ R (Itl K a) H1) ∨ (∃ xs, SqT K H1 a xs) ∧ R (Itt K a) H1)
theorem Zew {tl : TE} (hl : PE X iter tl) : PI X tg iter (iTL X.K tl) := by
 intro pins s σ H R I h
 refine thn (hl pins s σ H _ I h) fun v s1 ⟨x, H1, I1, r1, q1⟩ => ?_
 obtain ⟨a, e, q⟩ := q1
 subst e
 cases r1
 have fp : ∀ b ∈ [s1.heap.objs.size], UQ X pins H1 b := fun b hb => by
  rw [List.mem_singleton.mp hb]
  exact I1.S3 (Nat.le_refl _) (I1.hok.fresh (Nat.le_refl _))
 have IP : ∀ o : Obj, L2.Inv X pins σ H1 { s1 with heap := s1.heap.push o, toks := s1.toks } := fun o => I1.kept (t' := s1.toks) fun b o e => Heap.get?_push_of_some _ e
 rcases q with ⟨⟨xs, hq⟩, q⟩ | ⟨⟨xs, hq⟩, q⟩
 ·obtain ⟨its, rv, p, hz⟩ := I1.list hq
  exact wpAny_pyIter_list p.isList ⟨s1.heap.objs.size, _, _, _, H1, rfl, IP _, GO a _, ⟨_, Heap.get?_push_size _ rfl, rfl, rfl⟩, fp, q⟩
 ·obtain ⟨its, rv, p, hz⟩ := I1.tuple hq
  exact wpAny_pyIter_tuple (show s1.heap.IsTuple a its.toArray from p) ⟨s1.heap.objs.size, _, _, _, H1, rfl, IP _, Wr a _, ⟨_, Heap.get?_push_size _ rfl, rfl, rfl⟩, fp, q⟩
def Zbe (te : DTE) : Yu := fun Δ M Ψ => te Δ M fun x M1 => Zad x fun ds => Ψ ds M1
theorem Rj (te : DTE) (Δ : DSt) (M : Mp) (Ψ : List PyData → Mp → Prop) : Zbe te Δ M Ψ = (te Δ M fun x M1 => Zad x fun ds => Ψ ds M1) := propext Iff.rfl
theorem Zem {te : DTE} (he : DE X iter te) : DI X tg iter (Zbe te) := by
 obtain ⟨t, p, q⟩ := he
 refine ⟨_, Zew p, fun σ H Δ M Ψ R dr er h k => ?_⟩
 refine q σ H Δ M _ _ dr er h fun v H1 x M1 r1 st rv hx => ?_
 have two : ∃ ds, (x = .dat (.tuple ds) ∨ x = .dat (.list ds)) ∧ Ψ ds M1 := by
  unfold Zad at hx
  split at hx
  ·exact ⟨_, .inl rfl, hx⟩
  ·exact ⟨_, .inr rfl, hx⟩
  ·exact hx.elim
 obtain ⟨ds, rfl | rfl, hΨ⟩ := two
 ·obtain ⟨a, xs, rfl, h1, h2⟩ := rv.tup
  refine ⟨a, rfl, .inr ⟨⟨xs, h1.sq⟩, k _ H1 M1 ds r1 st (fun M2 H2 st2 i => ⟨fun hi => ?_, fun hi => ⟨xs, (h1.step st2).sq, by rw [h2.length]; exact hi⟩⟩) hΨ⟩⟩
  have hx : i < xs.length := by rw [h2.length]; exact hi
  refine ⟨⟨xs, xs[i], (h1.step st2).sq, by simp [hx]⟩, fun x H' ⟨e, y⟩ => ?_⟩
  obtain ⟨d, hd, hy⟩ := (h2.step st2).N3 (y xs (h1.step st2).sq)
  subst e
  exact fun r => ⟨r, Step.refl, d, hd, hy⟩
 ·obtain ⟨a, xs, rfl, h1, h2⟩ := rv.lst
  refine ⟨a, rfl, .inl ⟨⟨xs, h1.sq⟩, k _ H1 M1 ds r1 st (fun M2 H2 st2 i => ⟨fun hi => ?_, fun hi => ⟨xs, (h1.step st2).sq, by rw [h2.length]; exact hi⟩⟩) hΨ⟩⟩
  have hx : i < xs.length := by rw [h2.length]; exact hi
  refine ⟨⟨xs, xs[i], (h1.step st2).sq, by simp [hx]⟩, fun x H' ⟨e, y⟩ => ?_⟩
  obtain ⟨d, hd, hy⟩ := (h2.step st2).N3 (y xs (h1.step st2).sq)
  subst e
  exact fun r => ⟨r, Step.refl, d, hd, hy⟩
end
end DL
namespace DL
open PySem PySem.Spec PyProof.Rows L2
theorem Ym {k x : Str} {c0 c : Addr} {cl : List (Str × Addr)} (h : ((k, c0) :: cl).lookup x = some c) : (x = k ∧ c = c0) ∨ (x ≠ k ∧ cl.lookup x = some c) := by
 rw [List.lookup_cons] at h
 cases e : x == k with
 | true => rw [e] at h; cases h; exact .inl ⟨eq_of_beq e, rfl⟩
 | false => rw [e] at h; exact .inr ⟨fun z => (by rw [z, beq_self_eq_true] at e; cases e), h⟩
theorem Wg {k x : Str} {c0 : Addr} {cl : List (Str × Addr)} (h : x ≠ k) : ((k, c0) :: cl).lookup x = cl.lookup x := by rw [List.lookup_cons, beq_eq_false_iff_ne.mpr h]
theorem Ez {k : Str} {c0 : Addr} {cl : List (Str × Addr)} : ((k, c0) :: cl).lookup k = some c0 := by rw [List.lookup_cons, beq_self_eq_true]
noncomputable def ZS (X : Cx) (scope : Scope) (k : Str) (C : Addr) (N : List Str) (ex : List Addr) (s : Shared) (H : Hp) : Cx :=
 { X with N := N, s₀ := s, H₀ := H, env := compEnvC scope ((k, C + 1) :: C3 X.env scope.names []) C X.env, outer := X.stack, ex := ex, fn := fun x => x == k, pn := [], xe := fun _ _ => False }
structure Yn (X : Cx) (scope : Scope) (k : Str) (N : List Str) (ix : List (Option Nat)) : Prop where
 kind : scope.kind = .function
 cf : ∀ n cl, cellsFrom n scope.names cl = (k, n) :: cl
 pc : ∀ h, pushCells h scope.names = h.push { cls := .type "cell", data := .cell none }
 cellK : ∀ y ∈ scope.names, y.2 = .cell → y.1 = k
 nk : ∀ y ∈ scope.names, y.2 = .free → y.1 ≠ k
 names : ∀ y ∈ scope.names, y.2 = .local → scope.names.lookup y.1 = some .local
 free : ∀ y ∈ scope.names, y.2 = .free → X.env.kindOf y.1 = some .cell
 len : N.length = ix.length
 cap : ∀ (j : Nat) (x : Str) (i : Nat), N[j]? = some x → ix[j]? = some (some i) → X.N[i]? = some x ∧ (x, NameKind.free) ∈ scope.names ∧ (relabel scope X.env).names.lookup x = some .cell
theorem RJ {M : Model} {A : Around} {E : Value → Shared → Prop} {s : Shared} {scope : Scope} {k : Str} {globals : Addr} {cl : List (Str × Addr)} {qual : Str} {env : Env} {Q : Env → Shared → Prop} (cf : ∀ n cl, cellsFrom n scope.names cl = (k, n) :: cl)
  (pc : ∀ h, pushCells h scope.names = h.push { cls := .type "cell", data := .cell none })
  (hQ : ∀ h', h' = (s.heap.push { cls := .type "dict", data := .dict #[] }).push { cls := .type "cell", data := .cell none } → Q (newEnv scope s.heap.objs.size globals ((k, s.heap.objs.size + 1) :: cl) qual none .none (some env) builtinsNs) { s with heap := h' }) :
  wpAny M A (newFunctionEnv scope globals cl [] qual none .none (some env)) Q E s := by
 simp only [newFunctionEnv, Option.isSome_some, if_true]
 refine wpAny_bind (wpAny_alloc ?_)
 refine wpAny_bind (wpAny_layCells _ (fun name kind cells => by cases hkc : kind == NameKind.cell <;> simp [hkc]) _ _ _ _ ?_)
 rw [cf, pc]
 rw [show ({ s with heap := s.heap.push { cls := .type "dict", data := .dict #[] } } : Shared).heap.objs.size = s.heap.objs.size + 1 from Heap.size_push ..]
 simp only [List.forIn_nil]
 exact wpAny_bind (wpAny_pure (wpAny_pure (hQ _ rfl)))
section
variable {X : Cx} {pins : List (Addr × Obj)} {σ : L2.St} {H2 : Hp} {s2 : Shared} {scope : Scope} {k : Str} {N : List Str} {ix : List (Option Nat)} {C : Addr} {fp : List Addr}
theorem HC (ok : Yn X scope k N ix) (I2 : Inv X pins σ H2 s2) : ∀ y ∈ scope.names, y.2 = .free → ∃ c, X.env.cells.lookup y.1 = some c := fun y hy hk => I2.ok.has y.1 (.inl (ok.free y hy hk))
theorem BQ (ok : Yn X scope k N ix) (I2 : Inv X pins σ H2 s2) (f2 : ∀ b ∈ fp, UQ X pins H2 b) (ex : ∀ b ∈ fp, ∃ o, s2.heap.get? b = some o) (hC : s2.heap.objs.size ≤ C) : (ZS X scope k C N fp s2 H2).Ok := by
 have hf := HC ok I2
 have lo : ∀ x c, (C3 X.env scope.names []).lookup x = some c → c < s2.heap.objs.size := fun x c e => by
  obtain ⟨v, q⟩ := I2.cell x c (ZR hf e).1
  exact q.lt
 refine ⟨I2.ok.mod, ok.kind, I2.ok.glob, I2.ok.blt, hC, fun x y c h1 h2 => ?_, fun x hx => ?_, fun x c h e => ?_, I2.ok.hd, I2.ok.frames, .inl rfl, fun b hb => ?_, fun b o e => I2.bs b o e, Nat.le_trans I2.ok.bsz I2.sz,
  fun b o e hb => ?_, fun b hb z => ?_, I2.stack, I2.G8⟩
 ·rcases Ym h1 with ⟨e1, z1⟩ | ⟨_, e1⟩
  ·rcases Ym h2 with ⟨e2, _⟩ | ⟨_, e2⟩
   ·rw [e1, e2]
   ·have := lo y c e2
    rw [z1] at this
    exact absurd this (Nat.not_lt.mpr (Nat.le_succ_of_le hC))
  ·rcases Ym h2 with ⟨_, z2⟩ | ⟨_, e2⟩
   ·have := lo x c e1
    rw [z2] at this
    exact absurd this (Nat.not_lt.mpr (Nat.le_succ_of_le hC))
   ·exact I2.ok.inj x y c (ZR hf e1).1 (ZR hf e2).1
 ·by_cases hk : x = k
  ·exact ⟨C + 1, by rw [hk]; exact Ez⟩
  have hx' : (relabel scope X.env).names.lookup x = some .cell ∨ (relabel scope X.env).names.lookup x = some .free := hx
  have go : ∀ k', (relabel scope X.env).names.lookup x = some k' → (k' = .cell ∨ k' = .free) → (x, NameKind.free) ∈ scope.names := fun k' e hk' => by
   have hm := PySem.mem_of_lookup e
   obtain ⟨⟨n, kd⟩, hn, q⟩ := List.mem_map.mp hm
   by_cases hr : (kd == NameKind.free && X.env.scope.kind == .function && X.env.kindOf n == some .cell) = true
   ·have q' : (n, NameKind.cell) = (x, k') := by rw [← q]; simp [hr]
    cases q'
    have : kd = .free := by simp only [Bool.and_eq_true] at hr; simpa using hr.1.1
    subst this
    exact hn
   ·have q' : (n, kd) = (x, k') := by rw [← q]; simp [hr]
    cases q'
    rcases hk' with rfl | rfl
    ·exact absurd (ok.cellK _ hn rfl) hk
    ·exact hn
  have key : (x, NameKind.free) ∈ scope.names := by
   rcases hx' with h | h
   ·exact go _ h (.inl rfl)
   ·exact go _ h (.inr rfl)
  obtain ⟨c, h1, _⟩ := XD hf key
  exact ⟨c, (Wg hk).trans h1⟩
 ·have hx : x = k := eq_of_beq h
  rcases Ym e with ⟨_, z⟩ | ⟨z, _⟩
  ·rw [z]
   exact Nat.le_succ_of_le hC
  ·exact absurd hx z
 ·obtain ⟨o, e⟩ := ex b hb
  refine ⟨Nat.ne_of_lt (Nat.lt_of_lt_of_le (Heap.lt_size e) hC), fun x c h => ?_⟩
  rcases Ym h with ⟨_, z⟩ | ⟨_, h⟩
  ·rw [z]
   exact (Nat.ne_of_lt (Nat.lt_of_lt_of_le (Heap.lt_size e) (Nat.le_succ_of_le hC))).symm
  ·exact (f2 b hb).2.2.2.2.1 x c (ZR hf h).1
 ·rcases (f2 b hb).2.2.2.1 with z | z
  ·exact I2.ok.noex b o e z
  ·exact absurd (Nat.lt_of_lt_of_le (Heap.lt_size e) (Nat.le_trans I2.ok.bsz z)) (Nat.lt_irrefl _)
 ·rcases List.mem_cons.mp (I2.Dh b z) with z | z
  ·exact (f2 b hb).2.1 z
  ·exact (f2 b hb).2.2.1 z
theorem G6 (ok : Yn X scope k N ix) (I2 : Inv X pins σ H2 s2) (f2 : ∀ b ∈ fp, UQ X pins H2 b) {s : Shared} {H : Hp} {m : Str → Option Value} (u : Un (frs X.stack) fp H2 H s2.heap s.heap) :
  ∀ (i : Nat) (x : Str) (v : V), N[i]? = some x → (QR ix σ)[i]? = some (some v) → ∃ w, RelV v w ∧ Look (ZS X scope k C N fp s2 H2).env s.heap m x w := fun j x v hN hv => by
 obtain ⟨i, hi, hs⟩ := Gd hv
 obtain ⟨hx, hm, hr⟩ := ok.cap j x i hN hi
 have hk : X.env.kindOf x = some .cell := ok.free _ hm rfl
 obtain ⟨m0, _, hl⟩ := I2.loc
 obtain ⟨w, r, l⟩ := hl i x v hx hs (.inr (.inl hk))
 refine ⟨w, r, .inr ⟨.inl hr, ?_⟩⟩
 rcases l with ⟨z, _⟩ | ⟨_, c, e, hc⟩
 ·rw [hk] at z; cases z
 ·obtain ⟨c', h1, h2⟩ := XD (HC ok I2) hm
  rw [e] at h2
  cases h2
  refine ⟨c, (Wg (ok.nk _ hm rfl)).trans h1, ?_⟩
  obtain ⟨o, ho, hd⟩ := hc
  obtain ⟨sl, q⟩ := u.any ho (I2.freeC x c e) fun z => (f2 c z).2.2.2.2.1 x c e rfl
  exact ⟨_, q, hd⟩
end
section
variable {X : Cx}
set_option maxHeartbeats 2000000 in
theorem DR {k : Str} {elt tg iter : Expr} {ifs : List Expr} {scope : Scope} {pos ps : Pos} {src : Yu} {N : List Str} {ix : List (Option Nat)} {g : DTG} {tc : DTT} {te : DTE} {use : Option (Value → Sem Unit)} {QQ : Value → Shared → Prop} {ψ : List PyData → Mp → Prop} (ok : Yn X scope k N ix) (hi : DI X tg iter src)
  (hg : ∀ C ex s H, DG (ZS X scope k C N ex s H) tg g) (ht : ∀ C ex s H, DTs (ZS X scope k C N ex s H) ifs tc) (he : ∀ C ex s H, DE (ZS X scope k C N ex s H) elt te) (hc : X.calm = true)
  (hs : ∀ x, foldedSetIterable iter X.env x = pure x) {σ : L2.St} {H : Hp} {Δ : DSt} {M : Mp} {pins : List (Addr × Obj)} {s : Shared} (dr : ZX X.K M H) (er : Jn X.K M H σ Δ) (h : src Δ M fun ds M1 => CompSrc ds M1 Δ ix g tc te ψ) (I : L2.Inv X pins σ H s)
  (hfin : ∀ (s4 : Shared) (C D : Addr) (H' : Hp) (M' : Mp) (vs : List V) (acc : List PyData), L2.Inv X pins σ (upd H' D (.lst vs)) s4 → H' D = none → ZX X.K M' H' → Step M H M' H' → Dts X.K M' H' vs acc → ψ acc M' → (∃ m, s4.heap.Ns C m) → UQ X pins (upd H' D (.lst vs)) C →
   compPost (model X.prog X.w) X.A X.xe use QQ (.ref D) C (.ok .next) s4) :
  wpAny (model X.prog X.w) X.A (comprehension (.ListComp elt [⟨tg, iter, ifs, 0⟩] scope pos) scope X.env ps (newList []) false (eval iter X.env) use) QQ X.xe s := by
 obtain ⟨wi, pi, qi⟩ := hi
 refine wpAny_comprehension_free (use := use) (cl := C3 X.env scope.names []) rfl hs (VF (HC ok I)) ok.kind ok.names ?_
 show wpAny _ _ (eval iter X.env) _ _ s
 refine thn (pi pins s σ H (fun J H' => ∃ M' ds, ZX X.K M' H' ∧ Step M H M' H' ∧ Yl X.K J ds M' H' ∧ ds.length ≤ sizeLine ∧ ∃ W : Nat → List PyData → Mp → Prop, W 0 [] M' ∧
   (∀ i d acc M', ds[i]? = some d → W i acc M' → g (.dat d) (Ej ix Δ) M' fun Δ2 M2 => tc Δ2 M2 fun b M3 => if b = true then te Δ2 M3 fun y M4 => onD y fun e => W (i + 1) (acc ++ [e]) M4 else W (i + 1) acc M3) ∧
   ∀ acc M', W ds.length acc M' → ψ acc M') I (qi σ H Δ M _ _ dr er h fun J H' M' ds a b c d => ⟨M', ds, a, b, c, d⟩)) fun x s1 h1 => thn h1 fun itv s2 h2 => ?_
 obtain ⟨it, fp, tn, J, H2, e, I2, T, st2, f2, M1, ds, dr1, stp, yl, hz, W, w0, wt, wd⟩ := h2
 subst e
 have exo : ∀ b ∈ fp, ∃ o, s2.heap.get? b = some o := fun b hb => let ⟨o, q, _⟩ := T.obj 0 _ st2 b hb; ⟨o, q⟩
 refine wpAny_newObj_type (RJ ok.cf ok.pc fun h₁ eh₁ => ?_)
 dsimp only at eh₁ ⊢
 generalize hH2 : s2.heap.push { cls := .type "list", dict := none, data := .seq ([] : List Value).toArray } = HH at eh₁ ⊢
 have hC : HH.objs.size = s2.heap.objs.size + 1 := by rw [← hH2, Heap.size_push]
 have hDC : s2.heap.objs.size ≠ HH.objs.size := by rw [hC]; exact Nat.ne_of_lt (Nat.lt_succ_self _)
 have hCle : s2.heap.objs.size ≤ HH.objs.size := by rw [hC]; exact Nat.le_succ _
 have below : ∀ b, b < s2.heap.objs.size → b ≠ HH.objs.size ∧ b ≠ s2.heap.objs.size := fun b hb => ⟨by rw [hC]; exact Nat.ne_of_lt (Nat.lt_succ_of_lt hb), Nat.ne_of_lt hb⟩
 have old : ∀ b o, s2.heap.get? b = some o → h₁.get? b = some o := fun b o e => by rw [eh₁]; exact Heap.get?_push_of_some _ (Heap.get?_push_of_some _ (hH2 ▸ Heap.get?_push_of_some _ e))
 have hacc : h₁.get? s2.heap.objs.size = some { cls := .type "list", data := .seq ([] : List Value).toArray } := by rw [eh₁]; exact Heap.get?_push_of_some _ (Heap.get?_push_of_some _ (hH2 ▸ Heap.get?_push_size _ rfl))
 have hns₁ : h₁.Ns HH.objs.size (fun _ => none) := by rw [eh₁]; exact (Heap.Ns.new HH (.type "dict")).keeps fun b o e => Heap.get?_push_of_some _ e
 have hcel : h₁.get? (HH.objs.size + 1) = some { cls := .type "cell", data := .cell none } := by
  have q := Heap.get?_push_size (HH.push { cls := .type "dict", data := .dict #[] }) (o := { cls := .type "cell", data := .cell none }) rfl
  rw [Heap.size_push] at q
  rw [eh₁]
  exact q
 clear eh₁
 generalize hCC : HH.objs.size = C at *
 generalize hDD : s2.heap.objs.size = D at hDC hacc below hCle
 have hDs : s2.heap.objs.size ≤ D := Nat.le_of_eq hDD
 have hCs : s2.heap.objs.size ≤ C := by rw [hDD]; exact hCle
 have fD : ∀ b ∈ fp, b ≠ D ∧ b ≠ C := fun b hb => by
  obtain ⟨o, q⟩ := exo b hb
  exact ⟨(below b (by rw [← hDD]; exact Heap.lt_size q)).2, (below b (by rw [← hDD]; exact Heap.lt_size q)).1⟩
 have okY : (ZS X scope k C N fp s2 H2).Ok := BQ ok I2 f2 exo hCs
 have fsD : ∀ b ∈ frs X.stack, b < s2.heap.objs.size := fun b hb => by
  obtain ⟨_, o, ho, _⟩ := I2.stack.mem hb
  exact Heap.lt_size ho
 have cellD : ∀ x c, (ZS X scope k C N fp s2 H2).env.cells.lookup x = some c → c ≠ D ∧ H2 c = none := fun x c e => by
  rcases Ym e with ⟨_, rfl⟩ | ⟨_, e⟩
  ·exact ⟨fun z => by rw [← z] at hCle; exact absurd hCle (Nat.not_le_of_gt (Nat.lt_succ_self _)), I2.hok.fresh (Nat.le_succ_of_le hCs)⟩
  ·have e' := (ZR (HC ok I2) e).1
   obtain ⟨v, q⟩ := I2.cell x c e'
   exact ⟨(below c (by rw [← hDD]; exact q.lt)).2, I2.freeC x c e'⟩
 have fpY : ∀ {H' : Hp} {ps : List (Addr × Obj)}, (∀ b ∈ fp, H' b = none) → (∀ p ∈ ps, p.1 = D) → ∀ b ∈ fp, UQ (ZS X scope k C N fp s2 H2) ps H' b := fun {H' ps} hn hp b hb =>
  ⟨hn b hb, (fD b hb).2, okY.exfs b hb, .inl hb, (okY.exf b hb).2, fun p hp' z => by
   have q : p ∈ ps := hp'
   rw [hp p q] at z
   exact (fD b hb).1 z.symm⟩
 have onlyD : ∀ (o : Obj), ∀ p ∈ [(D, o)], p.1 = D := fun o p hp => by
  have q : p = (D, o) := by simpa using hp
  rw [q]
 have reloc : ∀ {ps : List (Addr × Obj)} {σ' : L2.St} {H' : Hp} {s' : Shared} {o : Obj}, L2.Inv (ZS X scope k C N fp s2 H2) ps σ' H' s' → s'.heap.get? D = some o → H' D = none → (∀ v, o.data ≠ .cell v) →
   L2.Inv (ZS X scope k C N fp s2 H2) [(D, o)] (QR ix σ) H' s' := fun {ps σ' H' s' o} J' hD hn hd => by
  obtain ⟨m, hm, _⟩ := J'.loc
  refine ⟨J'.ok, J'.os, J'.bare, J'.base, ⟨m, hm, fun i x v a b _ => G6 ok I2 f2 J'.base i x v a b⟩, J'.cell, J'.free, J'.freeC, fun p hp => ?_, J'.hok, ?_⟩
  ·have q : p = (D, o) := by
    have z : p ∈ ([] : List (Addr × Obj)) ++ [(D, o)] := hp
    simpa using z
   subst q
   exact ⟨hD, hn, hDC, fun z => absurd (fsD D z) (Nat.not_lt.mpr hDs), hd⟩
  ·show (QR ix σ).length = N.length
   unfold QR
   rw [List.length_map, ok.len]
 have start : L2.Inv (ZS X scope k C N fp s2 H2) [(D, { cls := .type "list", data := .seq ([] : List Value).toArray })] (QR ix σ) H2 { s2 with heap := h₁ } := by
  refine ⟨okY, rfl, I2.bare, Un.kept old, ⟨_, hns₁, fun i x v a b _ => G6 ok I2 f2 (Un.kept old) i x v a b⟩, fun x c e => ?_, I2.hok.fresh hCs, fun x c e => (cellD x c e).2, fun p hp => ?_, I2.hok.kept old, ?_⟩
  ·rcases Ym e with ⟨_, rfl⟩ | ⟨_, e⟩
   ·exact ⟨none, _, hcel, rfl⟩
   ·obtain ⟨v, o, ho, hd⟩ := I2.cell x c (ZR (HC ok I2) e).1
    exact ⟨v, o, old c o ho, hd⟩
  ·have q : p = (D, { cls := .type "list", data := .seq ([] : List Value).toArray }) := by
    have z : p ∈ ([] : List (Addr × Obj)) ++ [(D, { cls := .type "list", data := .seq ([] : List Value).toArray })] := hp
    simpa using z
   subst q
   exact ⟨hacc, I2.hok.fresh hDs, hDC, fun z => absurd (fsD D z) (Nat.not_lt.mpr hDs), fun v z => nomatch z⟩
  ·show (QR ix σ).length = N.length
   unfold QR
   rw [List.length_map, ok.len]
 have loop : ∀ s₃ : Shared, s₃ = { s2 with heap := h₁ } →
   codeAny (model X.prog X.w) X.A (.compLoop (.ListComp elt [⟨tg, iter, ifs, 0⟩] scope pos) 0 (.ref it) (.ref D) (compEnvC scope ((k, C + 1) :: C3 X.env scope.names []) C X.env)) (compPost (model X.prog X.w) X.A X.xe use QQ (.ref D) C) s₃ := by
  rintro s₃ rfl
  refine Xq (fun n s' => ∃ (i : Nat) (acc : List PyData) (vs : List V) (its : List Value) (nn : Nat) (H' : Hp) (M' : Mp), L2.Inv (ZS X scope k C N fp s2 H2) [(D, { cls := .type "list", data := .seq its.toArray nn })] (QR ix σ) H' s' ∧
   tn i s'.heap ∧ (∀ b ∈ fp, H' b = none) ∧ ZX X.K M' H' ∧ Step M1 H2 M' H' ∧ Vals vs its ∧ Dts X.K M' H' vs acc ∧ W i acc M' ∧ i ≤ ds.length ∧ acc.length ≤ i ∧ n = ds.length - i) ?_ ds.length
   ⟨0, [], [], [], 0, H2, M1, start, T.keep _ _ _ st2 (fun b _ o e => old b o e), fun b hb => (f2 b hb).1, dr1, Step.refl, .nil, .nil, w0, Nat.zero_le _, Nat.le_refl _, rfl⟩
  rintro n s' ⟨i, acc, vs, its, nn, H', M', IY, ti, fr, dr', stp', rv, rd, wi', hil, hal, rfl⟩
  have pinD := IY.pin (D, { cls := .type "list", data := .seq its.toArray nn }) (by simp)
  have fok := fpY (ps := [(D, { cls := .type "list", data := .seq its.toArray nn })]) fr (onlyD _)
  obtain ⟨ygo, ystop⟩ := yl M' H' stp' i
  by_cases hlt : i < ds.length
  ·obtain ⟨jgo, jyl⟩ := ygo hlt
   refine thn (T.item (ZS X scope k C N fp s2 H2) rfl rfl rfl hc i _ s' (QR ix σ) H' (fun _ _ => False) IY fok ti jgo) fun r s4 ⟨u, hr, h4⟩ => ?_
   subst hr
   refine thn h4 fun _ s5 ⟨x, H5, I5, r5, y5, st5, fr5⟩ => ?_
   obtain ⟨dr5, stp5, d, hd, hxd⟩ := jyl x H5 y5 dr'
   replace dr' := dr5
   replace stp' := stp'.trans stp5
   replace rd := rd.step stp5
   have I5' := I5.pinned (fpY (ps := [(D, { cls := .type "list", data := .seq its.toArray nn })]) fr5 (onlyD _)) (T.obj _ _ st5)
   obtain ⟨tg', pg, qg⟩ := hg C fp s2 H2
   refine thn (pg _ s5 (QR ix σ) H5 x u (fun σ6 H6 => ∃ Δ6 M6, ZX X.K M6 H6 ∧ Step M' H5 M6 H6 ∧ Jn X.K M6 H6 σ6 Δ6 ∧ tc Δ6 M6 fun b M3 => if b = true then te Δ6 M3 fun y M4 => onD y fun e => W (i + 1) (acc ++ [e]) M4 else W (i + 1) acc M3) I5' r5
    (qg x (QR ix σ) H5 (.dat d) (Ej ix Δ) M' _ _ dr' ((er.step (stp.trans stp')).cap ix) hxd (wt i d acc M' hd wi') fun σ6 H6 Δ6 M6 a b c d => ⟨Δ6, M6, a, b, c, d⟩)) fun _ s6 ⟨σ6, H6, I6, Δ6, M6, dr6, stp6, er6, q6⟩ => ?_
   refine thn (ht C fp s2 H2 _ s6 σ6 H6 Δ6 M6 _ I6 dr6 er6 q6) fun b s7 ⟨H7, M7, I7, dr7, stp7, q7⟩ => ?_
   have keepD : ∀ {σz : L2.St} {Hz : Hp} {sz : Shared}, L2.Inv (ZS X scope k C N fp s2 H2) ([(D, { cls := .type "list", data := .seq its.toArray nn })] ++ K6 fp s5.heap) σz Hz sz →
     sz.heap.get? D = some { cls := .type "list", data := .seq its.toArray nn } ∧ Hz D = none ∧ tn (i + 1) sz.heap ∧ ∀ b ∈ fp, Hz b = none := fun {σz Hz sz} Iz => by
    have a := Iz.pin (D, { cls := .type "list", data := .seq its.toArray nn }) (by simp)
    refine ⟨a.1, a.2.1, T.keep _ _ _ st5 fun b hb o e => (Iz.pin (b, o) (List.mem_append_right _ (List.mem_append_right _ (Jr hb e)))).1, fun b hb => ?_⟩
    obtain ⟨o, e, _⟩ := T.obj _ _ st5 b hb
    exact (Iz.pin (b, o) (List.mem_append_right _ (List.mem_append_right _ (Jr hb e)))).2.1
   cases b with
   | false =>
    have q7' : W (i + 1) acc M7 := by simpa using q7
    obtain ⟨a1, a2, a3, a4⟩ := keepD I7
    have st17 : Step M' H5 M7 H7 := stp6.trans stp7
    exact ⟨ds.length - (i + 1), by omega, i + 1, acc, vs, its, nn, H7, M7, reloc I7 a1 a2 (fun v z => nomatch z), a3, a4, dr7, stp'.trans st17, rv, rd.step st17, q7', hlt, by omega, rfl⟩
   | true =>
    have q7' : te Δ6 M7 fun y M4 => onD y fun e => W (i + 1) (acc ++ [e]) M4 := by simpa using q7
    obtain ⟨te', pe', qe'⟩ := he C fp s2 H2
    refine thn (pe' _ s7 σ6 H7 (fun v H8 => ∃ e M8, ZX X.K M8 H8 ∧ Step M7 H7 M8 H8 ∧ Dt X.K M8 H8 v e ∧ W (i + 1) (acc ++ [e]) M8) I7 (qe' σ6 H7 Δ6 M7 _ _ dr7 (er6.step stp7) q7' fun v H8 x8 M8 a b c d => by
     replace d := QY d
     obtain ⟨e, rfl, w8⟩ := d
     exact ⟨e, M8, a, b, c, w8⟩)) fun y s8 ⟨v, H8, I8, r8, e, M8, dr8, stp8, dv8, w8⟩ => ?_
    obtain ⟨a1, a2, a3, a4⟩ := keepD I8
    have st18 : Step M' H5 M8 H8 := stp6.trans (stp7.trans stp8)
    have lv := rv.length
    have ld := rd.length
    refine call_meets PySem.F.slot_list_append ⟨_, a1, rfl⟩ PySem.F.entry_list_append (PySem.F.args_list_append_2 _ _) (PySem.list_append D its.toArray nn y (by rw [List.size_toArray]; omega)) ⟨a1, ?_⟩
    have q := PySem.IsL.update a1 (·.push y)
    have I8' : L2.Inv (ZS X scope k C N fp s2 H2) [] σ6 H8 s8 := I8.YS fun p hp => nomatch hp
    have I9 := I8'.turned (it := D) (h' := s8.heap.update D (Obj.mapSeq (·.push y))) (t' := s8.toks) (fun b o hb hu => (Heap.get?_update_other s8.heap (Obj.mapSeq (·.push y)) (Ne.symm hb)).trans hu) a2 hDC (.inr hDs)
     (fun x c e => (cellD x c e).1) (fun p hp => by have z : p ∈ ([] : List (Addr × Obj)) ++ [] := hp; simp at z)
    have ea : (its.toArray.push y) = (its ++ [y]).toArray := by simp
    rw [ea] at q
    refine ⟨ds.length - (i + 1), by omega, i + 1, acc ++ [e], vs ++ [v], its ++ [y], _, H8, M8, reloc I9 q a2 (fun v z => nomatch z), T.keep _ _ _ a3 (fun b hb o e => (Heap.get?_update_other s8.heap (Obj.mapSeq (·.push y)) (Ne.symm (fD b hb).1)).trans e), a4, dr8, stp'.trans st18,
     rv.append (.cons r8 .nil), (rd.step st18).append (.cons dv8 .nil), w8, hlt, by rw [List.length_append, List.length_singleton]; omega, rfl⟩
  ·have hie : i = ds.length := by omega
   refine thn (T.done (ZS X scope k C N fp s2 H2) rfl rfl rfl hc i _ s' (QR ix σ) H' (fun _ _ => False) IY fok ti (ystop (by omega))) fun r s4 ⟨hr, I4⟩ => ?_
   subst hr
   obtain ⟨m4, hm4, _⟩ := I4.loc
   have pD := I4.pin (D, { cls := .type "list", data := .seq its.toArray nn }) (by simp)
   have hCn : H' C = none := I4.free
   have hDn : H' D = none := pD.2.1
   have hok4 : HOk X.prog X.w (upd H' D (.lst vs)) s4.heap := fun b u e => by
    by_cases hb : b = D
    ·subst hb
     rw [JK] at e
     cases e
     exact ⟨by have := rv.length; have := rd.length; omega, its, nn, rv, pD.1⟩
    ·rw [ZL hb] at e
     refine (I4.hok b u e).Rg (fun c v hc' q => q) (fun c q => ?_) fun c xs q => ?_
     ·rw [ZL (ZC q pD.2.1)]; exact q
     ·rw [ZL (ZC q pD.2.1)]; exact q
   have bu : Un (frs X.stack) fp H2 H' s2.heap s4.heap := I4.base
   have un4 : Un (frs X.stack) fp H2 (upd H' D (.lst vs)) s2.heap s4.heap := by
    have nD : ∀ b o, s2.heap.get? b = some o → b ≠ D ∧ b ≠ C := fun b o e => ⟨fun z => absurd (z ▸ Heap.lt_size e) (Nat.not_lt.mpr hDs), fun z => absurd (z ▸ Heap.lt_size e) (Nat.not_lt.mpr hCs)⟩
    refine ⟨fun b o e n hb hx => bu.keep b o e n hb hx, fun b o e n hb hx => bu.slot b o e n hb hx, fun b o e n hx => by rw [ZL (nD b o e).1]; exact bu.free b o e n hx, fun b o e hx => bu.there b o e hx, fun b xs e => ?_, fun b o xs e => ?_, fun b ps e => ?_⟩
    ·have q := bu.tups b xs e
     rw [ZL (ZC q pD.2.1)]; exact q
    ·have q := bu.frzs b o xs e
     rw [ZL (ZC q pD.2.1)]; exact q
    ·obtain ⟨mo, q⟩ := bu.tbls b ps e
     exact ⟨mo, by rw [ZL (ZC q pD.2.1)]; exact q⟩
   have os4 : s4.os = s2.os := I4.os
   have IX : L2.Inv X pins σ (upd H' D (.lst vs)) s4 := I2.SK (s' := s4) os4 un4 hok4 I4.bare fun b hb => ⟨(f2 b hb).2.2.2.1, (f2 b hb).2.1, (f2 b hb).2.2.2.2.1, (f2 b hb).2.2.2.2.2⟩
   subst hie
   exact hfin s4 C D H' M' vs acc IX hDn dr' (stp.trans stp') rd (wd acc M' wi') ⟨m4, hm4⟩ (I2.S3 hCs (by rw [ZL (Ne.symm hDC)]; exact hCn))
 have hst₁ : tn 0 h₁ := T.keep _ _ _ st2 fun b _ o e => old b o e
 exact codeAny_compStart_list (loop _ rfl) (T.self _ 0 _ _ _ hst₁ (loop _ rfl))
theorem Ny (ow : Bool) {elt tg iter : Expr} {ifs : List Expr} {scope : Scope} {pos : Pos} {src : Yu} {k : Str} {N : List Str} {ix : List (Option Nat)} {g : DTG} {tc : DTT} {te : DTE} (ok : Yn X scope k N ix) (hi : DI X tg iter src)
  (hg : ∀ C ex s H, DG (ZS X scope k C N ex s H) tg g) (ht : ∀ C ex s H, DTs (ZS X scope k C N ex s H) ifs tc) (he : ∀ C ex s H, DE (ZS X scope k C N ex s H) elt te) (hc : X.calm = true)
  (hs : autoParam (∀ x, foldedSetIterable iter X.env x = pure x) zz2._auto_1) : DE X (.ListComp elt [⟨tg, iter, ifs, 0⟩] scope pos) (LV ow src ix g tc te) := by
 refine ⟨fun σ H Q => ∀ pins s, L2.Inv X pins σ H s → wpAny (model X.prog X.w) X.A (eval (.ListComp elt [⟨tg, iter, ifs, 0⟩] scope pos) X.env) (EP X pins σ Q) X.xe s, fun pins s σ H Q I h => h pins s I, fun σ H Δ M Φ Q dr er h k pins s I => ?_⟩
 rw [eval_ListComp]
 refine DR (ψ := CH ow Φ) ok hi hg ht he hc hs dr er h I fun s4 C D H' M' vs acc IX hDn dr' st rd fin hm f => ?_
 obtain ⟨m, hm⟩ := hm
 exact ⟨m, hm, fun h' hsb => ⟨.ref D, _, gone IX f hsb, rfl, Pu dr' st rd hDn fin k⟩⟩
theorem GQ (ow : Bool) {elt tg iter : Expr} {ifs : List Expr} {scope : Scope} {pos : Pos} {src : Yu} {k : Str} {N : List Str} {ix : List (Option Nat)} {g : DTG} {tc : DTT} {te : DTE} (ok : Yn X scope k N ix) (hi : DI X tg iter src)
  (hg : ∀ C ex s H, DG (ZS X scope k C N ex s H) tg g) (ht : ∀ C ex s H, DTs (ZS X scope k C N ex s H) ifs tc) (he : ∀ C ex s H, DE (ZS X scope k C N ex s H) elt te) (hc : X.calm = true)
  (hs : autoParam (∀ x, foldedSetIterable iter X.env x = pure x) zz2._auto_1) : DE X (.ListComp elt [⟨tg, iter, ifs, 0⟩] scope pos) (Gq ow src ix g tc te) :=
 Fy (Ny ow ok hi.mono hg ht he hc hs) UA
theorem Wa {sc : Scope} {XN : List Str} {scope : Scope} {k : Str} {N : List Str} {ix : List (Option Nat)} (hsc : X.env.scope = sc) (hN : X.N = XN) (cf : ∀ n cl, cellsFrom n scope.names cl = (k, n) :: cl) (pc : ∀ h, pushCells h scope.names = h.push { cls := .type "cell", data := .cell none })
  (h : scope.kind = .function ∧ (∀ y ∈ scope.names, y.2 = .cell → y.1 = k) ∧ (∀ y ∈ scope.names, y.2 = .free → y.1 ≠ k) ∧ (∀ y ∈ scope.names, y.2 = .local → scope.names.lookup y.1 = some .local) ∧ (∀ y ∈ scope.names, y.2 = .free → sc.names.lookup y.1 = some .cell) ∧ N.length = ix.length ∧
   ∀ j ∈ List.range N.length, Fb sc XN scope N ix j = true) : Yn X scope k N ix := by
 obtain ⟨h1, h2, h2', h3, h4, h5, h6⟩ := h
 subst hsc hN
 refine ⟨h1, cf, pc, h2, h2', h3, h4, h5, fun j x i hx hi => ?_⟩
 have hj : j < N.length := (List.getElem?_eq_some_iff.mp hx).1
 have q := h6 j (List.mem_range.mpr hj)
 unfold Fb at q
 rw [hx, hi] at q
 simp only [Bool.and_eq_true, decide_eq_true_eq] at q
 exact ⟨q.1, q.2.1, q.2.2⟩
theorem K7 {scope0 : Scope} {k : Str} {C : Addr} {N0 : List Str} {ex : List Addr} {s : Shared} {H : Hp} {sc scope : Scope} {N : List Str} {ix : List (Option Nat)} (hsc : X.env.scope = sc)
  (h : scope.kind = .function ∧ (∀ y ∈ scope.names, y.2 ≠ .cell) ∧ (∀ y ∈ scope.names, y.2 = .local → scope.names.lookup y.1 = some .local) ∧ (∀ y ∈ scope.names, y.2 = .free → (XF scope0 sc).lookup y.1 = some .cell) ∧ N.length = ix.length ∧
   ∀ j ∈ List.range N.length, Fb { scope0 with names := XF scope0 sc } N0 scope N ix j = true) : V6 (ZS X scope0 k C N0 ex s H) scope N ix :=
 ZH (sc := { scope0 with names := XF scope0 sc }) (by subst hsc; rfl) rfl h
end
end DL
namespace My
open PySem PySem.Spec PyProof.Rows L2 DL
set_option maxHeartbeats 8000000
noncomputable def top (i : Nat) : Stmt := PySem.Challenge.pw_landsentered_k54_whole_papers_go_on.main.body.getD i (.Pass ⟨0, 0, 0, 0⟩)
noncomputable abbrev Jp : Stmt := top 1
noncomputable abbrev Q1 : Stmt := top 3
noncomputable abbrev D4 : Stmt := top 4
noncomputable abbrev J3 : Stmt := top 5
noncomputable abbrev Jm : Stmt := top 6
noncomputable abbrev Z4 : Stmt := top 7
noncomputable abbrev D8 : Stmt := top 8
noncomputable abbrev VO : Stmt := top 9
noncomputable abbrev Xf : Stmt := top 10
noncomputable abbrev Qu : Stmt := top 11
noncomputable abbrev VN : Stmt := top 12
noncomputable abbrev JB : Stmt := top 13
noncomputable abbrev QZ : Stmt := top 14
noncomputable abbrev Jw : Stmt := top 16
noncomputable abbrev Jq : Stmt := top 17
noncomputable abbrev Qo : Stmt := top 18
noncomputable abbrev Qv : Stmt := top 19
noncomputable abbrev Qd : Stmt := top 20
noncomputable abbrev Wu : Stmt := top 21
noncomputable abbrev Jl : Stmt := top 23
noncomputable abbrev Ju : Stmt := top 25
noncomputable abbrev YT : Stmt := top 27
noncomputable abbrev Wo : Stmt := top 28
noncomputable abbrev QI : Stmt := top 29
noncomputable abbrev JV : Stmt := top 30
noncomputable abbrev Qj : Stmt := top 31
noncomputable abbrev DU : Stmt := top 33
noncomputable abbrev K1 : Stmt := top 34
noncomputable abbrev KN : Stmt := top 35
noncomputable abbrev EA : Stmt := top 36
noncomputable abbrev Xc : Stmt := top 37
noncomputable abbrev Jv : Stmt := top 38
noncomputable abbrev Wc : Stmt := top 39
noncomputable abbrev Wn : Stmt := top 41
noncomputable abbrev YY : Stmt := top 42
noncomputable abbrev Xb : Stmt := top 43
noncomputable abbrev Y2 : Stmt := top 44
noncomputable abbrev QJ : Stmt := top 45
noncomputable abbrev Xd : Stmt := top 46
noncomputable abbrev YZ : Stmt := top 47
noncomputable abbrev Qs : Stmt := top 48
noncomputable abbrev Wf : Stmt := top 49
noncomputable abbrev Wb : Stmt := top 50
noncomputable abbrev K5 : Stmt := top 51
noncomputable abbrev VZ : Stmt := top 52
noncomputable abbrev Xh : Stmt := top 53
noncomputable abbrev VS : Stmt := top 54
noncomputable abbrev QK : Stmt := top 55
noncomputable abbrev J2 : Stmt := top 56
noncomputable abbrev JR : Stmt := top 57
noncomputable abbrev B1 : Stmt := top 58
theorem BW : Zr ["thing"] ["thing"] (Ze Jp) := ⟨rfl, rfl, rfl, by decide +kernel, rfl, by decide +kernel, by decide +kernel⟩
theorem Gw : Zr ["box"] ["box"] (Ze Q1) := ⟨rfl, rfl, rfl, by decide +kernel, rfl, by decide +kernel, by decide +kernel⟩
theorem Zdc : Zr ["box", "spot"] ["box", "spot"] (Ze D4) := ⟨rfl, rfl, rfl, by decide +kernel, rfl, by decide +kernel, by decide +kernel⟩
theorem Es : Zr ["box", "other"] ["box", "other"] (Ze J3) := ⟨rfl, rfl, rfl, by decide +kernel, rfl, by decide +kernel, by decide +kernel⟩
theorem B2 : Zr ["box", "spot"] ["box", "spot"] (Ze Jm) := ⟨rfl, rfl, rfl, by decide +kernel, rfl, by decide +kernel, by decide +kernel⟩
theorem Xx : Zr ["one", "other"] ["one", "other"] (Ze Z4) := ⟨rfl, rfl, rfl, by decide +kernel, rfl, by decide +kernel, by decide +kernel⟩
theorem Zb5 : Zr ["one", "other", "way"] ["one", "other", "way"] (Ze D8) := ⟨rfl, rfl, rfl, by decide +kernel, rfl, by decide +kernel, by decide +kernel⟩
theorem Ll : Zr ["spot", "r"] ["spot", "r"] (Ze VO) := ⟨rfl, rfl, rfl, by decide +kernel, rfl, by decide +kernel, by decide +kernel⟩
theorem C4 : Zr ["box", "way", "at", "high"] ["box", "way", "at"] (Ze Xf) := ⟨rfl, rfl, rfl, by decide +kernel, rfl, by decide +kernel, by decide +kernel⟩
theorem V4 : Zr ["box", "way", "at", "low"] ["box", "way", "at"] (Ze Qu) := ⟨rfl, rfl, rfl, by decide +kernel, rfl, by decide +kernel, by decide +kernel⟩
theorem XX : Zr ["one", "other", "low", "high"] ["one", "other"] (Ze VN) := ⟨rfl, rfl, rfl, by decide +kernel, rfl, by decide +kernel, by decide +kernel⟩
theorem Js : Zr ["one", "other", "middle", "left", "right", "below", "above"] ["one", "other"] (Ze JB) := ⟨rfl, rfl, rfl, by decide +kernel, rfl, by decide +kernel, by decide +kernel⟩
theorem QG : Zr ["box", "others", "pieces", "other", "rest", "piece"] ["box", "others"] (Ze QZ) := ⟨rfl, rfl, rfl, by decide +kernel, rfl, by decide +kernel, by decide +kernel⟩
theorem Wm : Zr ["shape", "box", "lacking"] ["shape", "box"] (Ze Jw) := ⟨rfl, rfl, rfl, by decide +kernel, rfl, by decide +kernel, by decide +kernel⟩
theorem Qq : Zr ["shape", "box", "k", "across", "along", "way", "places", "at", "first"] ["shape", "box"] (Ze Jq) := ⟨rfl, rfl, rfl, by decide +kernel, rfl, by decide +kernel, by decide +kernel⟩
theorem Vb : Zr ["shape", "box", "way", "places", "other"] ["shape", "box", "way"] (Ze Qo) := ⟨rfl, rfl, rfl, by decide +kernel, rfl, by decide +kernel, by decide +kernel⟩
theorem JX : Zr ["shape", "box", "thing", "first", "second"] ["shape", "box", "thing"] (Ze Qv) := ⟨rfl, rfl, rfl, by decide +kernel, rfl, by decide +kernel, by decide +kernel⟩
theorem KA : Zr ["shape", "k"] ["shape", "k"] (Ze Qd) := ⟨rfl, rfl, rfl, by decide +kernel, rfl, by decide +kernel, by decide +kernel⟩
theorem Sk : Zr ["box", "way", "at"] ["box", "way", "at"] (Ze Wu) := ⟨rfl, rfl, rfl, by decide +kernel, rfl, by decide +kernel, by decide +kernel⟩
theorem Kf : Zr ["one", "other", "answers", "lacking"] ["one", "other"] (Ze Jl) := ⟨rfl, rfl, rfl, by decide +kernel, rfl, by decide +kernel, by decide +kernel⟩
theorem Ei : Zr ["shape", "spot"] ["shape", "spot"] (Ze Ju) := ⟨rfl, rfl, rfl, by decide +kernel, rfl, by decide +kernel, by decide +kernel⟩
theorem Dc : Zr ["shape", "spot", "away"] ["shape", "spot"] (Ze YT) := ⟨rfl, rfl, rfl, by decide +kernel, rfl, by decide +kernel, by decide +kernel⟩
theorem RD : Zr ["shape", "wobble", "spot"] ["shape", "wobble", "spot"] (Ze Wo) := ⟨rfl, rfl, rfl, by decide +kernel, rfl, by decide +kernel, by decide +kernel⟩
theorem Uh : Zr ["shape", "spot"] ["shape", "spot"] (Ze QI) := ⟨rfl, rfl, rfl, by decide +kernel, rfl, by decide +kernel, by decide +kernel⟩
theorem UB : Zr ["shape", "low", "high"] ["shape"] (Ze JV) := ⟨rfl, rfl, rfl, by decide +kernel, rfl, by decide +kernel, by decide +kernel⟩
theorem WN : Zr ["pieces", "spot"] ["pieces", "spot"] (Ze Qj) := ⟨rfl, rfl, rfl, by decide +kernel, rfl, by decide +kernel, by decide +kernel⟩
theorem LY : Zr ["_law_script", "_law_k", "_law_cell"] ["_law_script", "_law_k"] (Ze DU) := ⟨rfl, rfl, rfl, by decide +kernel, rfl, by decide +kernel, by decide +kernel⟩
theorem XS : Zr ["_law_pen_here", "_law_many", "_law_number", "_law_found"] ["_law_pen_here", "_law_many"] (Ze K1) := ⟨rfl, rfl, rfl, by decide +kernel, rfl, by decide +kernel, by decide +kernel⟩
theorem KL : Zr ["_law_pen_here", "_law_low", "_law_high", "_law_thick", "_law_found"] ["_law_pen_here"] (Ze KN) := ⟨rfl, rfl, rfl, by decide +kernel, rfl, by decide +kernel, by decide +kernel⟩
theorem Wj : Zr ["_law_pen_here", "_law_box_here", "_law_begin", "_law_end", "_law_way", "_law_first", "_law_at"] ["_law_pen_here", "_law_box_here"] (Ze EA) := ⟨rfl, rfl, rfl, by decide +kernel, rfl, by decide +kernel, by decide +kernel⟩
theorem VR : Zr ["_law_pen_here", "_law_way", "_law_found", "_law_k", "_law_low", "_law_high"] ["_law_pen_here"] (Ze Xc) := ⟨rfl, rfl, rfl, by decide +kernel, rfl, by decide +kernel, by decide +kernel⟩
theorem Y4 : Zr ["_law_pen_here", "_law_times", "_law_begins"] ["_law_pen_here"] (Ze Jv) := ⟨rfl, rfl, rfl, by decide +kernel, rfl, by decide +kernel, by decide +kernel⟩
theorem Vz : Zr ["_law_boxes_here", "_law_frame_here", "_law_found", "_law_times", "_law_x", "_law_y", "_law_low", "_law_high", "_law_begin"] ["_law_boxes_here", "_law_frame_here"] (Ze Wc) := ⟨rfl, rfl, rfl, by decide +kernel, rfl, by decide +kernel, by decide +kernel⟩
theorem UN : Zr ["_law_pen_here", "_law_frame_here", "_law_found", "_law_way", "_law_cell"] ["_law_pen_here", "_law_frame_here"] (Ze Wn) := ⟨rfl, rfl, rfl, by decide +kernel, rfl, by decide +kernel, by decide +kernel⟩
theorem UE : Zr ["_law_one", "_law_box_here", "_law_low", "_law_high"] ["_law_one", "_law_box_here"] (Ze YY) := ⟨rfl, rfl, rfl, by decide +kernel, rfl, by decide +kernel, by decide +kernel⟩
theorem Uv : Zr ["_law_box_here", "_law_way", "_law_at", "_law_low", "_law_high"] ["_law_box_here", "_law_way", "_law_at"] (Ze Xb) := ⟨rfl, rfl, rfl, by decide +kernel, rfl, by decide +kernel, by decide +kernel⟩
theorem MN : Zr ["_law_thing"] ["_law_thing"] (Ze Y2) := ⟨rfl, rfl, rfl, by decide +kernel, rfl, by decide +kernel, by decide +kernel⟩
theorem WM : Zr ["_law_shape", "_law_box_here", "_law_paper"] ["_law_shape", "_law_box_here", "_law_paper"] (Ze QJ) := ⟨rfl, rfl, rfl, by decide +kernel, rfl, by decide +kernel, by decide +kernel⟩
theorem JS : Zr ["_law_shape", "_law_box_here", "_law_thing", "_law_waiting", "_law_here", "_law_paper", "_law_parts_here", "_law_way", "_law_at"] ["_law_shape", "_law_box_here", "_law_thing"] (Ze Xd) := ⟨rfl, rfl, rfl, by decide +kernel, rfl, by decide +kernel, by decide +kernel⟩
theorem CO : Zr ["_law_one", "_law_other", "_law_way"] ["_law_one", "_law_other"] (Ze YZ) := ⟨rfl, rfl, rfl, by decide +kernel, rfl, by decide +kernel, by decide +kernel⟩
theorem QH : Zr ["_law_pen_here", "_law_boxes_here", "_law_way", "_law_low", "_law_high", "_law_more", "_law_begin", "_law_one", "_law_other"] ["_law_pen_here", "_law_boxes_here"] (Ze Qs) := ⟨rfl, rfl, rfl, by decide +kernel, rfl, by decide +kernel, by decide +kernel⟩
theorem Yi : Zr ["_law_paper", "_law_box_here", "_law_part_here", "_law_way", "_law_at", "_law_one", "_law_other", "_law_first", "_law_second"] ["_law_paper", "_law_box_here", "_law_part_here"] (Ze Wf) := ⟨rfl, rfl, rfl, by decide +kernel, rfl, by decide +kernel, by decide +kernel⟩
theorem W8 : Zr ["_law_paper", "_law_box_here", "_law_shape", "_law_papers_here", "_law_first", "_law_one", "_law_other"] ["_law_paper", "_law_box_here", "_law_shape", "_law_papers_here"] (Ze Wb) := ⟨rfl, rfl, rfl, by decide +kernel, rfl, by decide +kernel, by decide +kernel⟩
theorem SN : Zr ["_law_paper"] ["_law_paper"] (Ze K5) := ⟨rfl, rfl, rfl, by decide +kernel, rfl, by decide +kernel, by decide +kernel⟩
theorem YH : Zr ["_law_one", "_law_other", "_law_found", "_law_box_here", "_law_paper"] ["_law_one", "_law_other"] (Ze VZ) := ⟨rfl, rfl, rfl, by decide +kernel, rfl, by decide +kernel, by decide +kernel⟩
theorem Bi : Zr ["_law_pen_here", "_law_box_here", "_law_begin", "_law_end"] ["_law_pen_here", "_law_box_here"] (Ze Xh) := ⟨rfl, rfl, rfl, by decide +kernel, rfl, by decide +kernel, by decide +kernel⟩
theorem Yx : Zr ["_law_box_here", "_law_way", "_law_paper", "_law_at", "_law_one", "_law_other"] ["_law_box_here", "_law_way", "_law_paper"] (Ze VS) := ⟨rfl, rfl, rfl, by decide +kernel, rfl, by decide +kernel, by decide +kernel⟩
theorem QT : Zr ["_law_pen_here", "_law_shape", "_law_box_here", "_law_made_here", "_law_part_here", "_law_some", "_law_here", "_law_paper"] ["_law_pen_here", "_law_shape", "_law_box_here", "_law_made_here"] (Ze QK) := ⟨rfl, rfl, rfl, by decide +kernel, rfl, by decide +kernel, by decide +kernel⟩
theorem Jo : Zr ["_law_pen_here", "_law_shapes", "_law_papers_here", "_law_more", "_law_box_here", "_law_paper", "_law_made_here"] ["_law_pen_here", "_law_shapes"] (Ze J2) := ⟨rfl, rfl, rfl, by decide +kernel, rfl, by decide +kernel, by decide +kernel⟩
theorem Yv : Zr ["_law_shapes", "_law_spot_here", "_law_far", "_law_wobble", "_law_words"] ["_law_shapes", "_law_spot_here"] (Ze JR) := ⟨rfl, rfl, rfl, by decide +kernel, rfl, by decide +kernel, by decide +kernel⟩
theorem Xo : Zr ["_law_script", "_law_k", "_law_pen_here", "_law_first", "_law_second", "_law_frame_here", "_law_shapes", "_law_turn"] ["_law_script"] (Ze B1) := ⟨rfl, rfl, rfl, by decide +kernel, rfl, by decide +kernel, by decide +kernel⟩
theorem Py : bootBuiltins "abs" = some (.builtin "abs") := by decide +kernel
theorem Zbt : bootBuiltins "any" = some (.builtin "any") := by decide +kernel
theorem HP : bootBuiltins "bool" = some (.type "bool") := by decide +kernel
theorem PQ : bootBuiltins "int" = some (.type "int") := by decide +kernel
theorem Qt : bootBuiltins "isinstance" = some (.builtin "isinstance") := by decide +kernel
theorem Qx : bootBuiltins "len" = some (.builtin "len") := by decide +kernel
theorem SV : bootBuiltins "list" = some (.type "list") := by decide +kernel
theorem VE : bootBuiltins "max" = some (.builtin "max") := by decide +kernel
theorem JE : bootBuiltins "min" = some (.builtin "min") := by decide +kernel
theorem Hn : bootBuiltins "sorted" = some (.builtin "sorted") := by decide +kernel
theorem Q4 : bootBuiltins "tuple" = some (.type "tuple") := by decide +kernel
set_option genInjectivity false in
structure Tx (K : PySem.W.Frag) (mg : Str → Option Value) where
 VT : Addr
 VP : FuncData
 Qb : Own K mg "is_whole" Jp ["thing"] VT VP
 Ya : Addr
 Yp : FuncData
 Vf : Own K mg "has_spots" Q1 ["box"] Ya Yp
 NJ : Addr
 OI : FuncData
 KS : Own K mg "has" D4 ["box", "spot"] NJ OI
 YJ : Addr
 YG : FuncData
 JF : Own K mg "has_all" J3 ["box", "other"] YJ YG
 VX : Addr
 VM : FuncData
 Q0 : Own K mg "steps_to" Jm ["box", "spot"] VX VM
 Qm : Addr
 Qh : FuncData
 ZI : Own K mg "steps_between" Z4 ["one", "other"] Qm Qh
 Ro : Addr
 TR : FuncData
 BS : Own K mg "gap" D8 ["one", "other", "way"] Ro TR
 Uk : Addr
 Uj : FuncData
 XC : Own K mg "square" VO ["spot", "r"] Uk Uj
 WQ : Addr
 UD : FuncData
 Ye : Own K mg "up_to" Xf ["box", "way", "at"] WQ UD
 Ji : Addr
 Jh : FuncData
 Z5 : Own K mg "onward_from" Qu ["box", "way", "at"] Ji Jh
 Ui : Addr
 Uz : FuncData
 XO : Own K mg "common" VN ["one", "other"] Ui Uz
 KI : Addr
 KO : FuncData
 YN : Own K mg "cut_out" JB ["one", "other"] KI KO
 JA : Addr
 Jt : FuncData
 ZZ : Own K mg "left_over" QZ ["box", "others"] JA Jt
 KC : Addr
 X0 : FuncData
 YC : Own K mg "covered" Jw ["shape", "box"] KC X0
 J5 : Addr
 J7 : FuncData
 Qc : Own K mg "cover_of" Jq ["shape", "box"] J5 J7
 VD : Addr
 Vp : FuncData
 Qp : Own K mg "cut_places" Qo ["shape", "box", "way"] VD Vp
 QU : Addr
 QO : FuncData
 ZM : Own K mg "holds_cover" Qv ["shape", "box", "thing"] QU QO
 JZ : Addr
 JY : FuncData
 Q5 : Own K mg "is_number_of" Qd ["shape", "k"] JZ JY
 Ln : Addr
 Fq : FuncData
 CZ : Own K mg "cuts" Wu ["box", "way", "at"] Ln Fq
 WR : Addr
 UJ : FuncData
 XH : Own K mg "within" Jl ["one", "other"] WR UJ
 YO : Addr
 YQ : FuncData
 Jy : Own K mg "lies_in" Ju ["shape", "spot"] YO YQ
 BK : Addr
 BA : FuncData
 WS : Own K mg "depth" YT ["shape", "spot"] BK BA
 E9 : Addr
 L6 : FuncData
 C9 : Own K mg "side" Wo ["shape", "wobble", "spot"] E9 L6
 VG : Addr
 Vs : FuncData
 JQ : Own K mg "other_side" QI ["shape", "spot"] VG Vs
 Cg : Addr
 Bb : FuncData
 Uu : Own K mg "frame" JV ["shape"] Cg Bb
 JM : Addr
 JL : FuncData
 Qi : Own K mg "steps_away" Qj ["pieces", "spot"] JM JL
 Ts : Addr
 SJ : FuncData
 Mq : Own K mg "_law_pen" DU ["_law_script", "_law_k"] Ts SJ
 V2 : Addr
 V5 : FuncData
 Zo : Own K mg "_law_draw" K1 ["_law_pen_here", "_law_many"] V2 V5
 FJ : Addr
 Fw : FuncData
 Cy : Own K mg "_law_hole" KN ["_law_pen_here"] FJ Fw
 Mj : Addr
 OD : FuncData
 KY : Own K mg "_law_box" EA ["_law_pen_here", "_law_box_here"] Mj OD
 Bu : Addr
 Br : FuncData
 Uo : Own K mg "_law_boxes" Xc ["_law_pen_here"] Bu Br
 Ki : Addr
 X3 : FuncData
 Yq : Own K mg "_law_frame" Jv ["_law_pen_here"] Ki X3
 HE : Addr
 HM : FuncData
 DH : Own K mg "_law_laid" Wc ["_law_boxes_here", "_law_frame_here"] HE HM
 HD : Addr
 Fp : FuncData
 C0 : Own K mg "_law_spot" Wn ["_law_pen_here", "_law_frame_here"] HD Fp
 Bx : Addr
 Cb : FuncData
 Us : Own K mg "_law_has" YY ["_law_one", "_law_box_here"] Bx Cb
 Yd : Addr
 Yg : FuncData
 Z6 : Own K mg "_law_parts" Xb ["_law_box_here", "_law_way", "_law_at"] Yd Yg
 WW : Addr
 WY : FuncData
 JU : Own K mg "_law_whole" Y2 ["_law_thing"] WW WY
 Vu : Addr
 Vw : FuncData
 JP : Own K mg "_law_leaf_holds" QJ ["_law_shape", "_law_box_here", "_law_paper"] Vu Vw
 B7 : Addr
 Cn : FuncData
 UG : Own K mg "_law_holds" Xd ["_law_shape", "_law_box_here", "_law_thing"] B7 Cn
 B5 : Addr
 BV : FuncData
 Ut : Own K mg "_law_touch" YZ ["_law_one", "_law_other"] B5 BV
 Ky : Addr
 Kj : FuncData
 JC : Own K mg "_law_greater" Qs ["_law_pen_here", "_law_boxes_here"] Ky Kj
 Kt : Addr
 Kz : FuncData
 Z9 : Own K mg "_law_less" Wf ["_law_paper", "_law_box_here", "_law_part_here"] Kt Kz
 Gi : Addr
 GR : FuncData
 V8 : Own K mg "_law_made" Wb ["_law_paper", "_law_box_here", "_law_shape", "_law_papers_here"] Gi GR
 f_deep : Addr
 UW : FuncData
 V3 : Own K mg "_law_deep" K5 ["_law_paper"] f_deep UW
 WJ : Addr
 Ue : FuncData
 Q3 : Own K mg "_law_papers" VZ ["_law_one", "_law_other"] WJ Ue
 Hw : Addr
 LA : FuncData
 CC : Own K mg "_law_part" Xh ["_law_pen_here", "_law_box_here"] Hw LA
 WA : Addr
 Ug : FuncData
 XB : Own K mg "_law_joined" VS ["_law_box_here", "_law_way", "_law_paper"] WA Ug
 Vt : Addr
 VC : FuncData
 JT : Own K mg "_law_made_right" QK ["_law_pen_here", "_law_shape", "_law_box_here", "_law_made_here"] Vt VC
 Kl : Addr
 XW : FuncData
 Yz : Own K mg "_law_goes_on" J2 ["_law_pen_here", "_law_shapes"] Kl XW
 Ur : Addr
 W4 : FuncData
 Xz : Own K mg "_law_deeper" JR ["_law_shapes", "_law_spot_here"] Ur W4
 ZcE : Addr
 ZbG : FuncData
 o_law : Own K mg "law" B1 ["_law_script"] ZcE ZbG
 ZaL : mg "abs" = none
 Zei : mg "any" = none
 PF : mg "bool" = none
 Za6 : mg "int" = none
 QL : mg "isinstance" = none
 JH : mg "len" = none
 Zc3 : mg "list" = none
 KG : mg "max" = none
 Yj : mg "min" = none
 Q6 : mg "range" = none
 ZeP : mg "set" = none
 Cr : mg "sorted" = none
 JW : mg "tuple" = none
 ZaR : mg "zip" = none
local macro_rules | `(tactic| walk_at "hd") => `(tactic| (subst_vars; (try dsimp only); refine DL.Ot fun R hR => ?_))
noncomputable def ab (i : Int) : Int := if i < 0 then -i else i
noncomputable def QE (x y x' y' : Int) : Int := max (ab (x - x')) (ab (y - y'))
noncomputable def gp (a b a' b' : Int) : Int := max 0 (max (a' - b) (a - b'))
noncomputable def btw (x y X Y x' y' X' Y' : Int) : Int := max (gp x X x' X') (gp y Y y' Y')
structure B4 where
 x : Int
 y : Int
 X : Int
 Y : Int
noncomputable def bD (b : B4) : PyData := .tuple [.tuple [.int b.x, .int b.y], .tuple [.int b.X, .int b.Y]]
noncomputable def JI (a b : B4) : Int := btw a.x a.y a.X a.Y b.x b.y b.X b.Y
noncomputable def ZQ (p : B4) (u v : Int) : Int := btw p.x p.y p.X p.Y u v u v
noncomputable def hasB (b : B4) (u v : Int) : Bool := decide (b.x ≤ u ∧ u ≤ b.X ∧ b.y ≤ v ∧ v ≤ b.Y)
noncomputable def okB (b : B4) : Bool := decide (b.x ≤ b.X) && decide (b.y ≤ b.Y)
noncomputable def Za0 (a b : B4) : B4 := ⟨max a.x b.x, max a.y b.y, min a.X b.X, min a.Y b.Y⟩
noncomputable def EO (a b : B4) : List B4 :=
 let mx := max a.x b.x
 let my := max a.y b.y
 let mX := min a.X b.X
 let mY := min a.Y b.Y
 [⟨a.x, a.y, mx - 1, a.Y⟩, ⟨mX + 1, a.y, a.X, a.Y⟩, ⟨mx, a.y, mX, my - 1⟩, ⟨mx, mY + 1, mX, a.Y⟩]
noncomputable def KW (a b : B4) : List B4 := if 0 < JI a b then [a] else (EO a b).filter okB
noncomputable def QS (a : B4) (bs : List B4) : List B4 := bs.foldl (fun ps b => ps.flatMap fun p => KW p b) [a]
noncomputable def J0 (u v r : Int) : B4 := ⟨u - r, v - r, u + r, v + r⟩
def onX (x : DV) (P : B4 → Prop) : Prop := match x with | .dat (.tuple [.tuple [.int x, .int y], .tuple [.int X, .int Y]]) => P ⟨x, y, X, Y⟩ | _ => False
theorem NS (b : B4) (P : B4 → Prop) : onX (.dat (bD b)) P = P b := propext Iff.rfl
theorem NF (x y X Y : Int) (P : B4 → Prop) : onX (.dat (.tuple [.tuple [.int x, .int y], .tuple [.int X, .int Y]])) P = P ⟨x, y, X, Y⟩ := propext Iff.rfl
theorem ZK {x : DV} {P : B4 → Prop} (h : onX x P) : ∃ b, x = .dat (bD b) ∧ P b := by
 unfold onX at h
 split at h
 ·exact ⟨⟨_, _, _, _⟩, rfl, h⟩
 ·exact h.elim
theorem Pf (b : B4) (M : Mp) (P : List PyData → Prop) : onQ (.dat (bD b)) M P = P [.tuple [.int b.x, .int b.y], .tuple [.int b.X, .int b.Y]] := propext Iff.rfl
theorem OH (b : B4) (P : List PyData → Prop) : onT (.dat (bD b)) P = P [.tuple [.int b.x, .int b.y], .tuple [.int b.X, .int b.Y]] := propext Iff.rfl
def J9 (x : DV) (P : List B4 → Prop) : Prop := ∃ bs, x = .dat (.tuple (bs.map bD)) ∧ P bs
def Pr (x : DV) (P : List B4 → Prop) : Prop := ∃ bs, x = .dat (.list (bs.map bD)) ∧ P bs
theorem ZW {x : DV} {P : List B4 → Prop} (h : J9 x P) : ∃ bs, x = .dat (.tuple (bs.map bD)) ∧ P bs := h
theorem E8 {x : DV} {P : List B4 → Prop} (h : Pr x P) : ∃ bs, x = .dat (.list (bs.map bD)) ∧ P bs := h
theorem ZcF {a b : B4} (h : bD a = bD b) : a = b := by
 unfold bD at h
 simp only [PyData.tuple.injEq, List.cons.injEq, PyData.int.injEq, and_true] at h
 obtain ⟨⟨h1, h2⟩, h3, h4⟩ := h
 cases a
 cases b
 simp only at h1 h2 h3 h4
 subst h1 h2 h3 h4
 rfl
theorem Y9 : ∀ {as bs : List B4}, as.map bD = bs.map bD → as = bs
 | [], [], _ => rfl
 | [], _ :: _, h => by simp at h
 | _ :: _, [], h => by simp at h
 | a :: as, b :: bs, h => by
  rw [List.map_cons, List.map_cons, List.cons.injEq] at h
  rw [ZcF h.1, Y9 h.2]
theorem Lq (bs : List B4) (P : List B4 → Prop) : J9 (.dat (.tuple (bs.map bD))) P = P bs := propext ⟨fun ⟨cs, e, h⟩ => by
 rw [DV.dat.injEq, PyData.tuple.injEq] at e
 rw [Y9 e]
 exact h, fun h => ⟨bs, rfl, h⟩⟩
theorem Ff (bs : List B4) (P : List B4 → Prop) : Pr (.dat (.list (bs.map bD))) P = P bs := propext ⟨fun ⟨cs, e, h⟩ => by
 rw [DV.dat.injEq, PyData.list.injEq] at e
 rw [Y9 e]
 exact h, fun h => ⟨bs, rfl, h⟩⟩
def Shp (bs : List B4) : Prop := 1 ≤ bs.length ∧ bs.length ≤ 6 ∧ ∀ b ∈ bs, okB b = true
noncomputable abbrev anyB (bs : List B4) : Int → Int → Bool := fun x y => bs.any fun b => hasB b x y
def TX : DSp := fun xs M Φ => on1 xs fun x => onX x fun b => Φ (.dat (.bool (okB b))) M
theorem Rn (xs : List DV) (M : Mp) (Φ : DK) : TX xs M Φ = (on1 xs fun x => onX x fun b => Φ (.dat (.bool (okB b))) M) := propext Iff.rfl
def RZ : DSp := fun xs M Φ => on3 xs fun x y z => onX x fun a => onX y fun b => onI z fun i => (i = 0 ∨ i = 1) ∧ Φ (.dat (.int (if i = 0 then gp a.x a.X b.x b.X else gp a.y a.Y b.y b.Y))) M
theorem Tb (xs : List DV) (M : Mp) (Φ : DK) : RZ xs M Φ = (on3 xs fun x y z => onX x fun a => onX y fun b => onI z fun i => (i = 0 ∨ i = 1) ∧ Φ (.dat (.int (if i = 0 then gp a.x a.X b.x b.X else gp a.y a.Y b.y b.Y))) M) := propext Iff.rfl
def Vx : DSp := fun xs M Φ => on2 xs fun x y => onX x fun a => onX y fun b => Φ (.dat (.int (JI a b))) M
theorem Bk (xs : List DV) (M : Mp) (Φ : DK) : Vx xs M Φ = (on2 xs fun x y => onX x fun a => onX y fun b => Φ (.dat (.int (JI a b))) M) := propext Iff.rfl
def Zdr : DSp := fun xs M Φ => on2 xs fun x y => onX x fun a => onP y fun u v => Φ (.dat (.int (ZQ a u v))) M
theorem Zda (xs : List DV) (M : Mp) (Φ : DK) : Zdr xs M Φ = (on2 xs fun x y => onX x fun a => onP y fun u v => Φ (.dat (.int (ZQ a u v))) M) := propext Iff.rfl
def CS : DSp := fun xs M Φ => on2 xs fun x y => onX x fun a => onP y fun u v => Φ (.dat (.bool (hasB a u v))) M
theorem Nz (xs : List DV) (M : Mp) (Φ : DK) : CS xs M Φ = (on2 xs fun x y => onX x fun a => onP y fun u v => Φ (.dat (.bool (hasB a u v))) M) := propext Iff.rfl
def RP : DSp := fun xs M Φ => on2 xs fun x y => onP x fun a b => onP y fun u v => Φ (.dat (.int (QE a b u v))) M
def Ul : DSp := fun xs M Φ => on2 xs fun x y => onP x fun u v => onI y fun r => Φ (.dat (bD (J0 u v r))) M
theorem EI (xs : List DV) (M : Mp) (Φ : DK) : Ul xs M Φ = (on2 xs fun x y => onP x fun u v => onI y fun r => Φ (.dat (bD (J0 u v r))) M) := propext Iff.rfl
def WH : DSp := fun xs M Φ => on2 xs fun x y => onX x fun a => onX y fun b => Φ (.dat (bD (Za0 a b))) M
theorem DN (xs : List DV) (M : Mp) (Φ : DK) : WH xs M Φ = (on2 xs fun x y => onX x fun a => onX y fun b => Φ (.dat (bD (Za0 a b))) M) := propext Iff.rfl
def SO : DSp := fun xs M Φ => on2 xs fun x y => onX x fun a => onX y fun b => ∀ p, M p = none → Φ (.own p) (Z8 M p (.lst ((KW a b).map bD)))
theorem RT (xs : List DV) (M : Mp) (Φ : DK) : SO xs M Φ = (on2 xs fun x y => onX x fun a => onX y fun b => ∀ p, M p = none → Φ (.own p) (Z8 M p (.lst ((KW a b).map bD)))) := propext Iff.rfl
def UT : DSp := fun xs M Φ => on2 xs fun x y => onX x fun a => J9 y fun bs => bs.length ≤ 6 ∧ Φ (.dat (.list ((QS a bs).map bD))) M
theorem Nv (xs : List DV) (M : Mp) (Φ : DK) : UT xs M Φ = (on2 xs fun x y => onX x fun a => J9 y fun bs => bs.length ≤ 6 ∧ Φ (.dat (.list ((QS a bs).map bD))) M) := propext Iff.rfl
def CT : DSp := fun xs M Φ => on2 xs fun x y => J9 x fun bs => onP y fun u v => bs.length ≤ 6 ∧ Φ (.dat (.bool (anyB bs u v))) M
theorem N1 (xs : List DV) (M : Mp) (Φ : DK) : CT xs M Φ = (on2 xs fun x y => J9 x fun bs => onP y fun u v => bs.length ≤ 6 ∧ Φ (.dat (.bool (anyB bs u v))) M) := propext Iff.rfl
theorem X6 {α : Type} {l : List α} {i : Nat} {q : α} (f : α → Bool) (h : l[i]? = some q) : (l.take (i + 1)).filter f = (l.take i).filter f ++ (if f q = true then [q] else []) := by
 rw [List.take_add_one, h, List.filter_append]
 cases e : f q <;> simp [e]
theorem UO (a b : B4) : (KW a b).length ≤ 4 := by
 unfold KW
 split
 ·simp
 ·exact Nat.le_trans (List.length_filter_le _ _) (Nat.le_refl 4)
theorem CD : ∀ (bs ps : List B4), (bs.foldl (fun ps b => ps.flatMap fun p => KW p b) ps).length ≤ ps.length * 4 ^ bs.length
 | [], ps => by simp
 | b :: bs, ps => by
  have h1 := XJ (fun p => KW p b) 4 ps fun p _ => UO p b
  have h2 := CD bs (ps.flatMap fun p => KW p b)
  rw [List.foldl_cons, List.length_cons, Nat.pow_succ]
  refine Nat.le_trans h2 (Nat.le_trans (Nat.mul_le_mul_right _ h1) ?_)
  rw [Nat.mul_assoc, Nat.mul_comm 4]
  exact Nat.le_refl _
theorem X1 (a : B4) (bs : List B4) (h : bs.length ≤ 6) : (QS a bs).length ≤ 4096 := by
 have h1 := CD bs [a]
 rw [List.length_singleton, Nat.one_mul] at h1
 have h2 : 4 ^ bs.length ≤ 4 ^ 6 := Nat.pow_le_pow_right (by decide) h
 exact Nat.le_trans h1 (Nat.le_trans h2 (by decide))
theorem EB {a b : B4} {bs : List B4} {i : Nat} (h : bs[i]? = some b) : QS a (bs.take (i + 1)) = (QS a (bs.take i)).flatMap fun p => KW p b := by
 unfold QS
 rw [List.take_add_one, h, List.foldl_append]
 rfl
def Sub (q p : B4) : Prop := okB q = true ∧ p.x ≤ q.x ∧ q.X ≤ p.X ∧ p.y ≤ q.y ∧ q.Y ≤ p.Y
theorem Sub.trans {a b c : B4} (h : Sub a b) (k : Sub b c) : Sub a c := by
 unfold Sub at *
 exact ⟨h.1, by omega⟩
theorem Lg {a b q : B4} (ha : okB a = true) (h : q ∈ KW a b) : Sub q a := by
 unfold KW at h
 split at h
 ·rw [List.mem_singleton.mp h]
  exact ⟨ha, by omega⟩
 ·rename_i h0
  obtain ⟨h1, h2⟩ := List.mem_filter.mp h
  refine ⟨h2, ?_⟩
  unfold JI btw gp at h0
  unfold okB at ha h2
  simp only [Bool.and_eq_true, decide_eq_true_eq] at ha h2
  unfold EO at h1
  simp only [List.mem_cons, List.not_mem_nil, or_false] at h1
  rcases h1 with rfl | rfl | rfl | rfl
  all_goals (dsimp only at h2 ⊢; omega)
theorem Dn {a : B4} : ∀ (bs ps : List B4), (∀ p ∈ ps, Sub p a) → ∀ q ∈ bs.foldl (fun ps b => ps.flatMap fun p => KW p b) ps, Sub q a
 | [], ps, h, q, hq => h q hq
 | b :: bs, ps, h, q, hq => by
  rw [List.foldl_cons] at hq
  refine Dn bs _ (fun p hp => ?_) q hq
  obtain ⟨p', hp', hc⟩ := List.mem_flatMap.mp hp
  exact (Lg (h p' hp').1 hc).trans (h p' hp')
theorem Ux {a q : B4} {bs : List B4} (ha : okB a = true) (h : q ∈ QS a bs) : Sub q a :=
 Dn bs [a] (fun p hp => by rw [List.mem_singleton.mp hp]; exact ⟨ha, by omega⟩) q h
section
variable {P : Program} {w : World} {K : PySem.W.Frag} {mg : Str → Option Value} {base : Heap}
theorem FH {a b a' b' : Int} : gp a b a' b' = 0 ↔ a' ≤ b ∧ a ≤ b' := by
 unfold gp
 omega
theorem Zbb (a b a' b' : Int) : 0 ≤ gp a b a' b' := Int.le_max_left _ _
theorem TF {x y : Int} (hx : 0 ≤ x) (hy : 0 ≤ y) : max x y = 0 ↔ x = 0 ∧ y = 0 := by omega
theorem N7 (b : B4) (u v : Int) : decide (ZQ b u v = 0) = hasB b u v := by
 unfold hasB ZQ btw
 rw [decide_eq_decide, TF (Zbb _ _ _ _) (Zbb _ _ _ _), FH, FH]
 omega
theorem L8 {a n : Int} : ab a ≤ n ↔ -n ≤ a ∧ a ≤ n := by unfold ab; split <;> omega
theorem Jj (a : Int) : (0 ≤ a ∧ ab a = a) ∨ (a < 0 ∧ ab a = -a) := by unfold ab; split <;> omega
theorem ZcT (a : Int) : ab (-a) = ab a := by unfold ab; split <;> split <;> omega
theorem PD (a b : Int) : ab (a - b) = ab (b - a) := by rw [← ZcT, Int.neg_sub]
theorem ZN {a b x y n : Int} : QE a b x y ≤ n ↔ (-n ≤ a - x ∧ a - x ≤ n) ∧ (-n ≤ b - y ∧ b - y ≤ n) := by
 unfold QE
 rw [Int.max_le, L8, L8]
theorem Kp (a b x y : Int) : QE a b x y = QE x y a b := by
 unfold QE
 rw [PD a x, PD b y]
theorem NQ {a b x y : Int} (h : ¬ (x = a ∧ y = b)) : 1 ≤ QE a b x y := by
 have h1 := ZN.mp (Int.le_refl (QE a b x y))
 omega
structure IsD (S : Int → Int → Bool) (u v d : Int) : Prop where
 sg : S u v = decide (0 < d)
 ne : d ≠ 0
 ex : ∃ x y, S x y ≠ S u v ∧ QE u v x y = ab d
 mn : ∀ x y, S x y ≠ S u v → ab d ≤ QE u v x y
section
variable {S S' : Int → Int → Bool} {u v d h : Int}
theorem IsD.pos (h : IsD S u v d) (k : S u v = true) : 0 < d := by have := h.sg; rw [k] at this; exact of_decide_eq_true this.symm
theorem IsD.neg (h : IsD S u v d) (k : S u v = false) : d < 0 := by
 have h1 := h.sg
 rw [k] at h1
 have h2 := of_decide_eq_false h1.symm
 have h3 := h.ne
 omega
theorem IsD.eq (h : IsD S u v d) {e : Int} (k : IsD S u v e) : d = e := by
 obtain ⟨x, y, h1, h2⟩ := h.ex
 obtain ⟨x', y', k1, k2⟩ := k.ex
 have a := h.mn x' y' k1
 have b := k.mn x y h1
 cases c : S u v with
 | true =>
  have c1 := h.pos c
  have c2 := k.pos c
  have i1 := Jj d
  have i2 := Jj e
  omega
 | false =>
  have c1 := h.neg c
  have c2 := k.neg c
  have i1 := Jj d
  have i2 := Jj e
  omega
noncomputable def cl (f a : Int) : Int := max (0 - f) (min f a)
theorem Du {f : Int} (hf : 0 ≤ f) (a : Int) : (a < -f ∧ cl f a = -f) ∨ (f < a ∧ cl f a = f) ∨ ((-f ≤ a ∧ a ≤ f) ∧ cl f a = a) := by unfold cl; omega
theorem ZbW {f : Int} (hf : 0 ≤ f) (a : Int) : ab (cl f a) ≤ f := by
 rw [L8]
 have := Du hf a
 omega
theorem Ub {f : Int} (hf : 0 ≤ f) (u x : Int) : ab (u + cl f (x - u) - x) = max 0 (ab (u - x) - f) := by
 have h1 := Du hf (x - u)
 have h2 := Jj (u - x)
 have h3 := Jj (u + cl f (x - u) - x)
 omega
theorem FQ {f : Int} (hf : 0 ≤ f) (u v x y : Int) : QE u v (u + cl f (x - u)) (v + cl f (y - v)) ≤ f := by
 rw [ZN]
 have h1 := L8.mp (ZbW hf (x - u))
 have h2 := L8.mp (ZbW hf (y - v))
 omega
noncomputable def sgn (h : Int) : Int := if h < 0 then -1 else 1
theorem Pz (h : Int) : (0 ≤ h ∧ sgn h = 1) ∨ (h < 0 ∧ sgn h = -1) := by unfold sgn; split <;> omega
theorem IsD.near (k : IsD S u v h) {x y : Int} (c : QE u v x y < ab h) : S x y = S u v := by
 by_cases e : S x y = S u v
 ·exact e
 ·have := k.mn x y e
  omega
theorem BE {S : Int → Int → Bool} {u v x y : Int} (h : S x y ≠ S u v) : 1 ≤ QE u v x y := by
 by_cases e : x = u ∧ y = v
 ·rw [e.1, e.2] at h
  exact absurd rfl h
 ·exact NQ e
theorem IsD.other (k : IsD S u v h) {x y : Int} (o : S x y ≠ S u v) (c : QE u v x y = ab h) : IsD S x y (0 - sgn h) := by
 have hn := k.ne
 have g2 := Jj h
 have f0 : 0 ≤ ab h - 1 := by omega
 have n1 := k.near (x := u + cl (ab h - 1) (x - u)) (y := v + cl (ab h - 1) (y - v)) (by have := FQ f0 u v x y; omega)
 have a0 : ab (0 - sgn h) = 1 := by
  have g3 := Jj (0 - sgn h)
  have g4 := Pz h
  omega
 have far : 1 ≤ QE x y (u + cl (ab h - 1) (x - u)) (v + cl (ab h - 1) (y - v)) := BE (S := S) (by rw [n1]; exact fun z => o z.symm)
 have near : QE x y (u + cl (ab h - 1) (x - u)) (v + cl (ab h - 1) (y - v)) ≤ 1 := by
  rw [Kp]
  unfold QE at c ⊢
  rw [Ub f0, Ub f0]
  omega
 refine ⟨?_, by unfold sgn; split <;> decide, ⟨u + cl (ab h - 1) (x - u), v + cl (ab h - 1) (y - v), by rw [n1]; exact fun z => o z.symm, by rw [a0]; omega⟩, fun x' y' q => by rw [a0]; exact BE q⟩
 cases c : S u v with
 | true =>
  have := k.pos c
  rw [c] at o
  rw [show sgn h = 1 from if_neg (by omega)]
  cases c' : S x y with
  | true => exact absurd c' o
  | false => rfl
 | false =>
  have := k.neg c
  rw [c] at o
  rw [show sgn h = -1 from if_pos this]
  cases c' : S x y with
  | true => rfl
  | false => exact absurd c' o
theorem IsD.more (k : IsD S u v h) (k' : IsD S' u v d) (hS : ∀ x y, S x y = true → S' x y = true) : h ≤ d := by
 cases c : S u v with
 | true =>
  have c1 := k.pos c
  have c' := hS u v c
  have c2 := k'.pos c'
  obtain ⟨x, y, a, b⟩ := k'.ex
  have a' : S x y ≠ S u v := fun z => a (by rw [c', hS x y (by rw [z, c])])
  have := k.mn x y a'
  have i1 := Jj h
  have i2 := Jj d
  omega
 | false =>
  have c1 := k.neg c
  cases c' : S' u v with
  | true =>
   have := k'.pos c'
   omega
  | false =>
   have c2 := k'.neg c'
   obtain ⟨x, y, a, b⟩ := k.ex
   have a' : S x y = true := by
    cases z : S x y with
    | true => rfl
    | false => rw [c, z] at a; exact absurd rfl a
   have := k'.mn x y (by rw [hS x y a', c']; decide)
   have i1 := Jj h
   have i2 := Jj d
   omega
theorem IsD.le (k : IsD S u v d) {x y : Int} (q : S x y ≠ S u v) {n : Int} (hn : QE u v x y ≤ n) : -n ≤ d ∧ d ≤ n := by
 have := k.mn x y q
 have i1 := Jj d
 omega
end
theorem ZG {b : B4} : okB b = true ↔ b.x ≤ b.X ∧ b.y ≤ b.Y := by
 unfold okB
 simp only [Bool.and_eq_true, decide_eq_true_eq]
theorem Zu {b : B4} {u v : Int} : hasB b u v = true ↔ b.x ≤ u ∧ u ≤ b.X ∧ b.y ≤ v ∧ v ≤ b.Y := by
 unfold hasB
 rw [decide_eq_true_eq]
theorem Qf {p : B4} {u v n : Int} (hn : 0 ≤ n) : ZQ p u v ≤ n ↔ (u - p.X ≤ n ∧ p.x - u ≤ n) ∧ (v - p.Y ≤ n ∧ p.y - v ≤ n) := by
 unfold ZQ btw gp
 omega
theorem Yt (p : B4) (u v : Int) : 0 ≤ ZQ p u v := by
 unfold ZQ btw gp
 omega
theorem Ho (a b x y : Int) : 0 ≤ QE a b x y := by
 have := ZN.mp (Int.le_refl (QE a b x y))
 omega
theorem JJ {p : B4} {u v x y : Int} (h : hasB p x y = true) : ZQ p u v ≤ QE u v x y := by
 have h1 := ZN.mp (Int.le_refl (QE u v x y))
 have h2 := Zu.mp h
 rw [Qf (Ho u v x y)]
 omega
theorem Ko {p : B4} (h : okB p = true) (u v : Int) : ∃ x y, hasB p x y = true ∧ QE u v x y = ZQ p u v := by
 have h1 := ZG.mp h
 have h2 := (Qf (Yt p u v)).mp (Int.le_refl _)
 have h3 : hasB p (max p.x (min p.X u)) (max p.y (min p.Y v)) = true := by
  rw [Zu]
  omega
 refine ⟨_, _, h3, Int.le_antisymm ?_ (JJ h3)⟩
 rw [ZN]
 have h4 := Yt p u v
 omega
theorem R7 {a b : B4} (ha : okB a = true) (x y : Int) : ((KW a b).any fun p => hasB p x y) = (hasB a x y && !hasB b x y) := by
 have ok := ZG.mp ha
 rw [Bool.eq_iff_iff, Bool.and_eq_true, Bool.not_eq_true', ← Bool.not_eq_true, Zu, Zu, List.any_eq_true]
 unfold KW
 split
 ·rename_i h0
  unfold JI btw gp at h0
  constructor
  ·rintro ⟨p, hp, h⟩
   rw [List.mem_singleton.mp hp, Zu] at h
   omega
  ·intro h
   exact ⟨a, List.mem_singleton.mpr rfl, Zu.mpr (by omega)⟩
 ·rename_i h0
  unfold JI btw gp at h0
  constructor
  ·rintro ⟨p, hp, h⟩
   have hp := (List.mem_filter.mp hp).1
   rw [Zu] at h
   unfold EO at hp
   simp only [List.mem_cons, List.not_mem_nil, or_false] at hp
   rcases hp with rfl | rfl | rfl | rfl
   all_goals (dsimp only at h; omega)
  ·intro h
   have fin : ∀ p : B4, p ∈ EO a b → (p.x ≤ x ∧ x ≤ p.X ∧ p.y ≤ y ∧ y ≤ p.Y) → ∃ p, p ∈ (EO a b).filter okB ∧ hasB p x y = true := fun p hp hh => ⟨p, List.mem_filter.mpr ⟨hp, ZG.mpr (by omega)⟩, Zu.mpr hh⟩
   by_cases c1 : x < b.x
   ·exact fin ⟨a.x, a.y, max a.x b.x - 1, a.Y⟩ (by simp [EO]) (by dsimp only; omega)
   ·by_cases c2 : b.X < x
    ·exact fin ⟨min a.X b.X + 1, a.y, a.X, a.Y⟩ (by simp [EO]) (by dsimp only; omega)
    ·by_cases c3 : y < b.y
     ·exact fin ⟨max a.x b.x, a.y, min a.X b.X, max a.y b.y - 1⟩ (by simp [EO]) (by dsimp only; omega)
     ·exact fin ⟨max a.x b.x, min a.Y b.Y + 1, min a.X b.X, a.Y⟩ (by simp [EO]) (by dsimp only; omega)
theorem fold_any (x y : Int) : ∀ (bs ps : List B4), (∀ p ∈ ps, okB p = true) → ((bs.foldl (fun ps b => ps.flatMap fun p => KW p b) ps).any fun p => hasB p x y) = ((ps.any fun p => hasB p x y) && !(bs.any fun b => hasB b x y))
 | [], ps, _ => by simp
 | b :: bs, ps, hp => by
  have go : ∀ qs : List B4, (∀ p ∈ qs, okB p = true) → ((qs.flatMap fun p => KW p b).any fun p => hasB p x y) = ((qs.any fun p => hasB p x y) && !hasB b x y) := fun qs => by
   induction qs with
   | nil => intro _; simp
   | cons q qs ih =>
    intro hq
    rw [List.flatMap_cons, List.any_append, R7 (hq q List.mem_cons_self), ih fun p h => hq p (List.mem_cons_of_mem _ h), List.any_cons]
    cases hasB q x y <;> cases hasB b x y <;> cases (qs.any fun p => hasB p x y) <;> rfl
  rw [List.foldl_cons, fold_any x y bs _ (fun p h => by
   obtain ⟨q, hq, hc⟩ := List.mem_flatMap.mp h
   exact (Lg (hp q hq) hc).1), go ps hp, List.any_cons]
  cases (ps.any fun p => hasB p x y) <;> cases hasB b x y <;> cases (bs.any fun p => hasB p x y) <;> rfl
theorem JN {a : B4} {bs : List B4} (ha : okB a = true) (_ : ∀ b ∈ bs, okB b = true) (x y : Int) : ((QS a bs).any fun p => hasB p x y) = (hasB a x y && !(bs.any fun b => hasB b x y)) := by
 unfold QS
 rw [fold_any x y bs [a] fun p hp => by rw [List.mem_singleton.mp hp]; exact ha]
 simp
structure Pieces (S : Int → Int → Bool) (u v : Int) (ps : List B4) : Prop where
 ok : ∀ p ∈ ps, okB p = true
 ne : ps ≠ []
 on : ∀ p ∈ ps, ∀ x y, hasB p x y = true → S x y ≠ S u v
 al : ∀ x y, S x y ≠ S u v → ∃ p ∈ ps, ZQ p u v ≤ QE u v x y
theorem Qe {bs : List B4} {x y : Int} (h : anyB bs x y = true) : ∃ b ∈ bs, hasB b x y = true := List.any_eq_true.mp h
theorem J1 {bs : List B4} {b : B4} {x y : Int} (hb : b ∈ bs) (h : hasB b x y = true) : anyB bs x y = true := List.any_eq_true.mpr ⟨b, hb, h⟩
def Frames (fr : B4) (bs : List B4) : Prop := ∀ b ∈ bs, fr.x < b.x ∧ b.X < fr.X ∧ fr.y < b.y ∧ b.Y < fr.Y
theorem U0 {bs : List B4} {fr : B4} {u v : Int} (hb : ∀ b ∈ bs, okB b = true) (hf : Frames fr bs) (h : anyB bs u v = true) : Pieces (anyB bs) u v (QS fr bs) := by
 obtain ⟨b0, m0, h0⟩ := Qe h
 have f0 := hf b0 m0
 have i0 := Zu.mp h0
 have hok : okB fr = true := ZG.mpr (by omega)
 have key : ∀ x y, hasB fr x y = true → anyB bs x y = false → ∃ p ∈ QS fr bs, hasB p x y = true := fun x y a b => by
  have e := JN hok hb x y
  rw [a, show (bs.any fun b => hasB b x y) = false from b] at e
  exact List.any_eq_true.mp e
 have al : ∀ x y, anyB bs x y ≠ anyB bs u v → ∃ p ∈ QS fr bs, ZQ p u v ≤ QE u v x y := fun x y q => by
  have q' : anyB bs x y = false := by
   rw [h] at q
   exact Bool.eq_false_iff.mpr q
  have hc := ZN.mp (Int.le_refl (QE u v x y))
  have c1 : hasB fr (max fr.x (min fr.X x)) (max fr.y (min fr.Y y)) = true := by
   rw [Zu]
   omega
  have c2 : anyB bs (max fr.x (min fr.X x)) (max fr.y (min fr.Y y)) = false := by
   by_cases z : fr.x ≤ x ∧ x ≤ fr.X ∧ fr.y ≤ y ∧ y ≤ fr.Y
   ·rw [show max fr.x (min fr.X x) = x by omega, show max fr.y (min fr.Y y) = y by omega]
    exact q'
   ·refine Bool.eq_false_iff.mpr fun t => ?_
    obtain ⟨b, mb, tb⟩ := Qe t
    have fb := hf b mb
    have ib := Zu.mp tb
    omega
  obtain ⟨p, mp, hp⟩ := key _ _ c1 c2
  refine ⟨p, mp, Int.le_trans (JJ hp) ?_⟩
  rw [ZN]
  omega
 refine ⟨fun p mp => (Ux hok mp).1, fun z => ?_, fun p mp x y hp => ?_, al⟩
 ·obtain ⟨p, mp, _⟩ := al fr.x fr.y (by
   rw [h]
   intro t
   obtain ⟨b, mb, tb⟩ := Qe t
   have fb := hf b mb
   have ib := Zu.mp tb
   omega)
  rw [z] at mp
  cases mp
 ·have e := JN hok hb x y
  rw [List.any_eq_true.mpr ⟨p, mp, hp⟩] at e
  have e' := (Bool.and_eq_true _ _ ▸ e.symm : _ ∧ _).2
  rw [h]
  intro t
  rw [show (bs.any fun b => hasB b x y) = true from t] at e'
  cases e'
theorem Y8 {bs : List B4} {u v : Int} (hb : ∀ b ∈ bs, okB b = true) (h1 : bs ≠ []) (h : anyB bs u v = false) : Pieces (anyB bs) u v bs := by
 refine ⟨hb, h1, fun p mp x y hp => ?_, fun x y q => ?_⟩
 ·rw [h, J1 mp hp]
  decide
 ·rw [h] at q
  obtain ⟨b, mb, tb⟩ := Qe (Bool.of_not_eq_false q)
  exact ⟨b, mb, JJ tb⟩
section
variable {S : Int → Int → Bool} {u v m : Int} {ps : List B4}
theorem Pieces.pos (h : Pieces S u v ps) {p : B4} (mp : p ∈ ps) : 1 ≤ ZQ p u v := by
 obtain ⟨x, y, a, b⟩ := Ko (h.ok p mp) u v
 rw [← b]
 exact BE (h.on p mp x y a)
theorem Pieces.depth (h : Pieces S u v ps) (h1 : ∃ p ∈ ps, ZQ p u v = m) (h2 : ∀ p ∈ ps, m ≤ ZQ p u v) : IsD S u v (if S u v = true then m else -m) := by
 obtain ⟨p, mp, e⟩ := h1
 have hp := h.pos mp
 obtain ⟨x, y, a, b⟩ := Ko (h.ok p mp) u v
 have ea : ab (if S u v = true then m else -m) = m := by
  split
  ·have := Jj m
   omega
  ·have := Jj (-m)
   omega
 refine ⟨?_, ?_, ⟨x, y, h.on p mp x y a, by rw [ea, b, e]⟩, fun x y q => ?_⟩
 ·cases S u v with
  | true => rw [if_pos rfl]; exact (decide_eq_true (by omega)).symm
  | false => rw [if_neg Bool.false_ne_true]; exact (decide_eq_false (by omega)).symm
 ·split <;> omega
 ·obtain ⟨p', mp', q'⟩ := h.al x y q
  have := h2 p' mp'
  rw [ea]
  omega
end
noncomputable def Vn (f ox oy : Int) (b : B4) : B4 := ⟨b.x * f + ox, b.y * f + oy, b.X * f + f - 1 + ox, b.Y * f + f - 1 + oy⟩
theorem HW {a x f r : Int} (hf : 0 < f) (h0 : 0 ≤ r) (h1 : r < f) : a * f ≤ x * f + r ↔ a ≤ x := by
 constructor
 ·intro h
  by_cases hx : a ≤ x
  ·exact hx
  ·have := Int.mul_le_mul_of_nonneg_right (show x + 1 ≤ a by omega) (Int.le_of_lt hf)
   rw [Int.add_mul, Int.one_mul] at this
   omega
 ·intro h
  have := Int.mul_le_mul_of_nonneg_right h (Int.le_of_lt hf)
  omega
theorem Dz {a x f r : Int} (hf : 0 < f) (h0 : 0 ≤ r) (h1 : r < f) : x * f + r ≤ a * f + f - 1 ↔ x ≤ a := by
 constructor
 ·intro h
  by_cases hx : x ≤ a
  ·exact hx
  ·have := Int.mul_le_mul_of_nonneg_right (show a + 1 ≤ x by omega) (Int.le_of_lt hf)
   rw [Int.add_mul, Int.one_mul] at this
   omega
 ·intro h
  have := Int.mul_le_mul_of_nonneg_right h (Int.le_of_lt hf)
  omega
theorem Zfj {f ox oy r r' : Int} (hf : 0 < f) (h0 : 0 ≤ r) (h1 : r < f) (h2 : 0 ≤ r') (h3 : r' < f) (b : B4) (u v : Int) : hasB (Vn f ox oy b) (u * f + ox + r) (v * f + oy + r') = hasB b u v := by
 unfold hasB Vn
 dsimp only
 have i1 := HW (a := b.x) (x := u) hf h0 h1
 have i2 := Dz (a := b.X) (x := u) hf h0 h1
 have i3 := HW (a := b.y) (x := v) hf h2 h3
 have i4 := Dz (a := b.Y) (x := v) hf h2 h3
 rw [decide_eq_decide, ← i1, ← i2, ← i3, ← i4]
 constructor <;> intro h <;> omega
theorem anyS {f ox oy r r' : Int} (hf : 0 < f) (h0 : 0 ≤ r) (h1 : r < f) (h2 : 0 ≤ r') (h3 : r' < f) (bs : List B4) (u v : Int) :
  ((bs.map (Vn f ox oy)).any fun b => hasB b (u * f + ox + r) (v * f + oy + r')) = bs.any fun b => hasB b u v := by
 rw [List.any_map]
 congr 1
 funext b
 exact Zfj hf h0 h1 h2 h3 b u v
def Cel (b : B4) : Prop := okB b = true ∧ (0 ≤ b.x ∧ b.X ≤ 11) ∧ (0 ≤ b.y ∧ b.Y ≤ 11)
noncomputable def QN (t ox oy i j : Int) : B4 := Vn t ox oy ⟨i, j, i, j⟩
theorem Qk {t : Int} (ht : 1 ≤ t) (x o : Int) : ∃ r, x = (x - o) / t * t + o + r ∧ 0 ≤ r ∧ r < t := by
 refine ⟨(x - o) % t, ?_, Int.emod_nonneg _ (by omega), Int.emod_lt_of_pos _ (by omega)⟩
 have := Int.mul_ediv_add_emod (x - o) t
 rw [Int.mul_comm] at this
 omega
theorem QC {t ox oy : Int} (ht : 1 ≤ t) (bs : List B4) (x y : Int) : anyB (bs.map (Vn t ox oy)) x y = anyB bs ((x - ox) / t) ((y - oy) / t) := by
 obtain ⟨r, e, a1, a2⟩ := Qk ht x ox
 obtain ⟨r', e', b1, b2⟩ := Qk ht y oy
 have h := anyS (ox := ox) (oy := oy) (by omega) a1 a2 b1 b2 bs ((x - ox) / t) ((y - oy) / t)
 rw [← e, ← e'] at h
 exact h
theorem Jk {t ox oy i j x y : Int} (ht : 1 ≤ t) : hasB (QN t ox oy i j) x y = true ↔ (x - ox) / t = i ∧ (y - oy) / t = j := by
 obtain ⟨r, e, a1, a2⟩ := Qk ht x ox
 obtain ⟨r', e', b1, b2⟩ := Qk ht y oy
 have h := Zfj (ox := ox) (oy := oy) (show 0 < t by omega) a1 a2 b1 b2 ⟨i, j, i, j⟩ ((x - ox) / t) ((y - oy) / t)
 rw [← e, ← e'] at h
 unfold QN
 rw [h, Zu]
 dsimp only
 omega
structure DC (S : Int → Int → Bool) (u v m x y : Int) : Prop where
 o : S x y ≠ S u v
 c : QE u v x y = m
 l : ∀ x' y', S x' y' ≠ S u v → QE u v x' y' = m → ltP (x', y') (x, y) = false
theorem Rp {a b c d : Int} : ltP (a, b) (c, d) = true ↔ a < c ∨ (a = c ∧ b < d) := by
 unfold ltP
 dsimp only
 split
 ·rw [decide_eq_true_eq]; omega
 ·rw [decide_eq_true_eq]; omega
theorem Dx {a b c d : Int} : ltP (a, b) (c, d) = false ↔ c < a ∨ (a = c ∧ d ≤ b) := by
 rw [← Bool.not_eq_true, Rp]
 omega
theorem DC.eq {S : Int → Int → Bool} {u v m x y x' y' : Int} (h : DC S u v m x y) (k : DC S u v m x' y') : x = x' ∧ y = y' := by
 have a := Dx.mp (h.l x' y' k.o k.c)
 have b := Dx.mp (k.l x y h.o h.c)
 omega
noncomputable def E6 (u v m : Int) (p : B4) : Int × Int := (max p.x (u - m), max p.y (v - m))
section
variable {S : Int → Int → Bool} {u v m : Int} {ps : List B4}
end
theorem OP {bs : List B4} {u v m : Int} (h : anyB bs u v = false) : ∀ x y, anyB bs x y ≠ anyB bs u v → QE u v x y ≤ m → ∃ p ∈ bs, hasB p x y = true := fun x y q _ => by
 rw [h] at q
 exact Qe (Bool.of_not_eq_false q)
theorem Ry {bs : List B4} {fr : B4} {u v m : Int} (hb : ∀ b ∈ bs, okB b = true) (hf : Frames fr bs) (h : anyB bs u v = true) (h2 : ∀ p ∈ QS fr bs, m ≤ ZQ p u v) :
  ∀ x y, anyB bs x y ≠ anyB bs u v → QE u v x y ≤ m → ∃ p ∈ QS fr bs, hasB p x y = true := fun x y q c => by
 obtain ⟨b0, m0, h0⟩ := Qe h
 have f0 := hf b0 m0
 have i0 := Zu.mp h0
 have hok : okB fr = true := ZG.mpr (by omega)
 have key : ∀ x y, hasB fr x y = true → anyB bs x y = false → ∃ p ∈ QS fr bs, hasB p x y = true := fun x y a b => by
  have e := JN hok hb x y
  rw [a, show (bs.any fun b => hasB b x y) = false from b] at e
  exact List.any_eq_true.mp e
 have edge : ∀ a b, hasB fr a b = true → (a = fr.x ∨ a = fr.X ∨ b = fr.y ∨ b = fr.Y) → m ≤ QE u v a b := fun a b ha hab => by
  obtain ⟨p, mp, hp⟩ := key a b ha (Bool.eq_false_iff.mpr fun t => by
   obtain ⟨b', mb, tb⟩ := Qe t
   have fb := hf b' mb
   have ib := Zu.mp tb
   omega)
  exact Int.le_trans (h2 p mp) (JJ hp)
 have c' := ZN.mp c
 have e1 := edge fr.x v (Zu.mpr (by omega)) (by omega)
 have e2 := edge fr.X v (Zu.mpr (by omega)) (by omega)
 have e3 := edge u fr.y (Zu.mpr (by omega)) (by omega)
 have e4 := edge u fr.Y (Zu.mpr (by omega)) (by omega)
 have g1 : QE u v fr.x v = u - fr.x := Int.le_antisymm (ZN.mpr (by omega)) (by have := ZN.mp (Int.le_refl (QE u v fr.x v)); omega)
 have g2 : QE u v fr.X v = fr.X - u := Int.le_antisymm (ZN.mpr (by omega)) (by have := ZN.mp (Int.le_refl (QE u v fr.X v)); omega)
 have g3 : QE u v u fr.y = v - fr.y := Int.le_antisymm (ZN.mpr (by omega)) (by have := ZN.mp (Int.le_refl (QE u v u fr.y)); omega)
 have g4 : QE u v u fr.Y = fr.Y - v := Int.le_antisymm (ZN.mpr (by omega)) (by have := ZN.mp (Int.le_refl (QE u v u fr.Y)); omega)
 refine key x y (Zu.mpr (by omega)) ?_
 rw [h] at q
 exact Bool.eq_false_iff.mpr q
def Full (S : Int → Int → Bool) (u v : Int) (ps : List B4) : Prop := ∀ m, (∀ p ∈ ps, m ≤ ZQ p u v) → ∀ x y, S x y ≠ S u v → QE u v x y ≤ m → ∃ p ∈ ps, hasB p x y = true
theorem PN {α : Type} (f : α → Int) : ∀ l : List α, l ≠ [] → ∃ a ∈ l, ∀ b ∈ l, f a ≤ f b
 | [], h => absurd rfl h
 | [a], _ => ⟨a, List.mem_singleton.mpr rfl, fun b hb => by rw [List.mem_singleton.mp hb]; exact Int.le_refl _⟩
 | a :: c :: l, _ => by
  obtain ⟨m, hm, hl⟩ := PN f (c :: l) (by simp)
  by_cases h : f a ≤ f m
  ·refine ⟨a, List.mem_cons_self, fun b hb => ?_⟩
   rcases List.mem_cons.mp hb with rfl | hb
   ·exact Int.le_refl _
   ·exact Int.le_trans h (hl b hb)
  ·refine ⟨m, List.mem_cons_of_mem _ hm, fun b hb => ?_⟩
   rcases List.mem_cons.mp hb with rfl | hb
   ·omega
   ·exact hl b hb
theorem CI : ∀ bs : List B4, ∃ fr, Frames fr bs
 | [] => ⟨⟨0, 0, 0, 0⟩, fun b hb => (nomatch hb)⟩
 | b :: bs => by
  obtain ⟨fr, h⟩ := CI bs
  refine ⟨⟨min fr.x (b.x - 1), min fr.y (b.y - 1), max fr.X (b.X + 1), max fr.Y (b.Y + 1)⟩, fun c hc => ?_⟩
  dsimp only
  rcases List.mem_cons.mp hc with rfl | hc
  ·omega
  ·have := h c hc
   omega
theorem ZbU {bs : List B4} (hb : ∀ b ∈ bs, okB b = true) (h1 : bs ≠ []) (u v : Int) : ∃ d, IsD (anyB bs) u v d := by
 have go : ∀ ps, Pieces (anyB bs) u v ps → ∃ d, IsD (anyB bs) u v d := fun ps hp => by
  obtain ⟨p, mp, hm⟩ := PN (fun p => ZQ p u v) ps hp.ne
  exact ⟨_, hp.depth ⟨p, mp, rfl⟩ hm⟩
 cases q : anyB bs u v with
 | true =>
  obtain ⟨fr, hf⟩ := CI bs
  exact go _ (U0 hb hf q)
 | false => exact go _ (Y8 hb h1 q)
noncomputable def Yh (d wb : Int) : Str := if wb < d then "in" else if d < -wb then "out" else "between"
section
variable {bs : List B4} {t ox oy u v d wb : Int}
end
def BJ : DSp := fun xs M Φ => on1 xs fun x => J9 x fun bs => (1 ≤ bs.length ∧ bs.length ≤ 6) ∧ ∀ fr, Frames fr bs → Φ (.dat (bD fr)) M
theorem Fh (xs : List DV) (M : Mp) (Φ : DK) : BJ xs M Φ = (on1 xs fun x => J9 x fun bs => (1 ≤ bs.length ∧ bs.length ≤ 6) ∧ ∀ fr, Frames fr bs → Φ (.dat (bD fr)) M) := propext Iff.rfl
def Zc8 (x : DV) (P : List B4 → Prop) : Prop := ∃ bs, (x = .dat (.tuple (bs.map bD)) ∨ x = .dat (.list (bs.map bD))) ∧ P bs
theorem S9 {x : DV} {P : List B4 → Prop} (h : Zc8 x P) : ∃ bs, (x = .dat (.tuple (bs.map bD)) ∨ x = .dat (.list (bs.map bD))) ∧ P bs := h
theorem Zc2 (bs : List B4) (P : List B4 → Prop) : Zc8 (.dat (.tuple (bs.map bD))) P = P bs := by
 refine propext ⟨fun ⟨cs, e, h⟩ => ?_, fun h => ⟨bs, .inl rfl, h⟩⟩
 rcases e with e | e
 ·rw [← Lq bs P]
  exact ⟨cs, e, h⟩
 ·cases e
theorem ZcV (bs : List B4) (P : List B4 → Prop) : Zc8 (.dat (.list (bs.map bD))) P = P bs := by
 refine propext ⟨fun ⟨cs, e, h⟩ => ?_, fun h => ⟨bs, .inr rfl, h⟩⟩
 rcases e with e | e
 ·cases e
 ·rw [← Ff bs P]
  exact ⟨cs, e, h⟩
def CF : DSp := fun xs M Φ => on2 xs fun x y => Zc8 x fun ps => onP y fun u v => (ps ≠ [] ∧ ps.length ≤ 4096) ∧ ∀ m, (∃ p ∈ ps, ZQ p u v = m) → (∀ p ∈ ps, m ≤ ZQ p u v) → Φ (.dat (.int m)) M
theorem O9 (xs : List DV) (M : Mp) (Φ : DK) : CF xs M Φ = (on2 xs fun x y => Zc8 x fun ps => onP y fun u v => (ps ≠ [] ∧ ps.length ≤ 4096) ∧ ∀ m, (∃ p ∈ ps, ZQ p u v = m) → (∀ p ∈ ps, m ≤ ZQ p u v) → Φ (.dat (.int m)) M) := propext Iff.rfl
def Bt : DSp := fun xs M Φ => on2 xs fun x y => J9 x fun bs => onP y fun u v => Shp bs ∧ ∀ ps, Pieces (anyB bs) u v ps → Full (anyB bs) u v ps → ps.length ≤ 4096 → Φ (.dat (.list (ps.map bD))) M
theorem HY (xs : List DV) (M : Mp) (Φ : DK) : Bt xs M Φ = (on2 xs fun x y => J9 x fun bs => onP y fun u v => Shp bs ∧ ∀ ps, Pieces (anyB bs) u v ps → Full (anyB bs) u v ps → ps.length ≤ 4096 → Φ (.dat (.list (ps.map bD))) M) := propext Iff.rfl
def B9 : DSp := fun xs M Φ => on2 xs fun x y => J9 x fun bs => onP y fun u v => Shp bs ∧ ∀ d, IsD (anyB bs) u v d → Φ (.dat (.int d)) M
theorem Hk (xs : List DV) (M : Mp) (Φ : DK) : B9 xs M Φ = (on2 xs fun x y => J9 x fun bs => onP y fun u v => Shp bs ∧ ∀ d, IsD (anyB bs) u v d → Φ (.dat (.int d)) M) := propext Iff.rfl
theorem PY {bs : List B4} {u v : Int} {A B : Prop} (h1 : anyB bs u v = true → A) (h2 : anyB bs u v = false → B) : if anyB bs u v = true then A else B := by
 cases q : anyB bs u v with
 | true => rw [if_pos rfl]; exact h1 q
 | false => rw [if_neg Bool.false_ne_true]; exact h2 q
def Fe : DSp := fun xs M Φ => on3 xs fun x y z => J9 x fun bs => onI y fun wb => onP z fun u v => (Shp bs ∧ 0 ≤ wb) ∧ ∀ d, IsD (anyB bs) u v d → Φ (.dat (.str (Yh d wb))) M
theorem Nh (xs : List DV) (M : Mp) (Φ : DK) : Fe xs M Φ = (on3 xs fun x y z => J9 x fun bs => onI y fun wb => onP z fun u v => (Shp bs ∧ 0 ≤ wb) ∧ ∀ d, IsD (anyB bs) u v d → Φ (.dat (.str (Yh d wb))) M) := propext Iff.rfl
theorem Lk {bs : List B4} {u v wb d : Int} (hb : ∀ b ∈ bs, okB b = true) (hw : 0 ≤ wb) (hd : IsD (anyB bs) u v d) : QS (J0 u v wb) bs = [] ↔ wb < d := by
 have hok : okB (J0 u v wb) = true := ZG.mpr (by unfold J0; dsimp only; omega)
 have sq : ∀ x y, hasB (J0 u v wb) x y = true ↔ QE u v x y ≤ wb := fun x y => by
  rw [Zu, ZN]
  unfold J0
  dsimp only
  omega
 have ad := Jj d
 constructor
 ·intro z
  have key : ∀ x y, QE u v x y ≤ wb → anyB bs x y = true := fun x y c => by
   have e := JN hok hb x y
   rw [z, (sq x y).mpr c] at e
   simpa using e.symm
  have k0 : anyB bs u v = true := key u v (by rw [ZN]; omega)
  have d0 := hd.pos k0
  by_cases c : wb < d
  ·exact c
  ·obtain ⟨x, y, e1, e2⟩ := hd.ex
   exact absurd (by rw [key x y (by omega), k0]) e1
 ·intro z
  cases q : QS (J0 u v wb) bs with
  | nil => rfl
  | cons p ps =>
   have mp : p ∈ QS (J0 u v wb) bs := by rw [q]; exact List.mem_cons_self
   obtain ⟨x, y, h1, h2⟩ := Ko (Ux hok mp).1 u v
   have e := JN hok hb x y
   rw [List.any_eq_true.mpr ⟨p, mp, h1⟩] at e
   have e' := (Bool.and_eq_true _ _ ▸ e.symm : _ ∧ _)
   have k0 : anyB bs u v = true := by
    rw [hd.sg]
    exact decide_eq_true (by omega)
   have k1 : anyB bs x y = false := by
    have e2 := e'.2
    rwa [Bool.not_eq_true'] at e2
   have := hd.mn x y (by rw [k0, k1]; decide)
   have := (sq x y).mp e'.1
   omega
theorem Nu {bs : List B4} {u v wb d m : Int} (hb : ∀ b ∈ bs, okB b = true) (h1 : bs ≠ []) (hw : 0 ≤ wb) (hd : IsD (anyB bs) u v d) (h2 : ∃ p ∈ bs, ZQ p u v = m) (h3 : ∀ p ∈ bs, m ≤ ZQ p u v) : wb < m ↔ d < -wb := by
 cases q : anyB bs u v with
 | true =>
  have d0 := hd.pos q
  obtain ⟨b, mb, tb⟩ := Qe q
  have a1 := h3 b mb
  have a2 : ZQ b u v ≤ 0 := by
   have i := Zu.mp tb
   rw [Qf (Int.le_refl 0)]
   omega
  omega
 | false =>
  have k := (Y8 hb h1 q).depth h2 h3
  rw [q, if_neg Bool.false_ne_true] at k
  have := hd.eq k
  omega
theorem PJ : ∀ ps : List B4, PyData.canLayAll0 (ps.map bD) = true
 | [] => by simp [PyData.canLayAll0]
 | p :: ps => by
  rw [List.map_cons]
  simp only [PyData.canLayAll0, Bool.and_eq_true]
  exact ⟨by simp [bD, PyData.canLay0, PyData.canLayAll0], PJ ps⟩
theorem Td (ps : List B4) {P : Bool → Prop} (h : P (decide (ps = []))) : eqD (.list (ps.map bD)) (.list []) P := by
 refine P9 ?_ ?_
 ·unfold Zbv
  simp only [PyData.canLay0, PJ, Bool.true_and]
  simp [PyData.canLayAll0, PyData.depth, PyData.depthAll]
 ·cases ps with
  | nil => simpa [Oh, By] using h
  | cons p ps => simpa [Oh, P6] using h
inductive Cv where
 | box (k : Int)
 | cut (w a : Int) (p q : Cv)
noncomputable def cvD : Cv → PyData
 | .box k => .tuple [.str (Str.ofString "box"), .int k]
 | .cut w a p q => .tuple [.str (Str.ofString "cut"), .int w, .int a, cvD p, cvD q]
noncomputable def Cv.dep : Cv → Nat
 | .box _ => 1
 | .cut _ _ p q => max p.dep q.dep + 1
theorem Vd (w a : Int) (p q : Cv) : (Cv.cut w a p q).dep = max p.dep q.dep + 1 := rfl
theorem Cv.Kq (c : Cv) : 1 ≤ c.dep := by cases c <;> simp [Cv.dep]
noncomputable def upB (b : B4) (w a : Int) : B4 := if w = 0 then ⟨b.x, b.y, a, b.Y⟩ else ⟨b.x, b.y, b.X, a⟩
noncomputable def owB (b : B4) (w a : Int) : B4 := if w = 0 then ⟨a, b.y, b.X, b.Y⟩ else ⟨b.x, a, b.X, b.Y⟩
noncomputable def loB (b : B4) (w : Int) : Int := if w = 0 then b.x else b.y
noncomputable def hiB (b : B4) (w : Int) : Int := if w = 0 then b.X else b.Y
noncomputable def allB (c b : B4) : Bool := hasB c b.x b.y && hasB c b.X b.Y
noncomputable def inB (c b : B4) : Bool := decide (c.x ≤ b.x ∧ c.y ≤ b.y ∧ b.X ≤ c.X ∧ b.Y ≤ c.Y)
noncomputable def DJ (bs : List B4) (k : Int) : Bool := decide (0 ≤ k) && decide (k < bs.length)
noncomputable def YR (b : B4) (w a : Int) : Bool := (decide (w = 0) || decide (w = 1)) && (decide (loB b w ≤ a) && decide (a < hiB b w))
noncomputable def ZF (bs : List B4) : B4 → Cv → Bool
 | b, .box k => DJ bs k && (match bs[k.toNat]? with | some c => allB c b | none => false)
 | b, .cut w a p q => YR b w a && (ZF bs (upB b w a) p && ZF bs (owB b w (a + 1)) q)
def Cov (bs : List B4) (b : B4) : Prop := ∀ u v, hasB b u v = true → anyB bs u v = true
theorem Qr {b : B4} {w a : Int} : YR b w a = true ↔ (w = 0 ∨ w = 1) ∧ loB b w ≤ a ∧ a < hiB b w := by
 unfold YR
 simp only [Bool.and_eq_true, Bool.or_eq_true, decide_eq_true_eq]
theorem allB_iff {c b : B4} : allB c b = true ↔ (c.x ≤ b.x ∧ b.x ≤ c.X ∧ c.y ≤ b.y ∧ b.y ≤ c.Y) ∧ (c.x ≤ b.X ∧ b.X ≤ c.X ∧ c.y ≤ b.Y ∧ b.Y ≤ c.Y) := by
 unfold allB hasB
 rw [Bool.and_eq_true, decide_eq_true_eq, decide_eq_true_eq]
theorem RN {c b : B4} (hb : okB b = true) (h : inB c b = true) : allB c b = true := by
 rw [ZG] at hb
 unfold inB at h
 have h := of_decide_eq_true h
 rw [allB_iff]
 omega
theorem FA {b : B4} {w a u v : Int} (h : hasB b u v = true) (hw : w = 0 ∨ w = 1) : hasB (upB b w a) u v = true ∨ hasB (owB b w (a + 1)) u v = true := by
 rw [Zu] at *
 rw [Zu]
 rcases hw with rfl | rfl
 ·unfold upB owB
  rw [if_pos rfl, if_pos rfl]
  dsimp only
  omega
 ·unfold upB owB
  rw [if_neg (by decide), if_neg (by decide)]
  dsimp only
  omega
theorem Hi {b : B4} {w a u v : Int} (hw : w = 0 ∨ w = 1) (h1 : loB b w ≤ a) (h2 : a < hiB b w) : (hasB (upB b w a) u v = true → hasB b u v = true) ∧ (hasB (owB b w (a + 1)) u v = true → hasB b u v = true) := by
 rw [Zu, Zu, Zu]
 rcases hw with rfl | rfl
 ·unfold upB owB
  unfold loB at h1
  unfold hiB at h2
  rw [if_pos rfl] at h1 h2
  rw [if_pos rfl, if_pos rfl]
  dsimp only
  omega
 ·unfold upB owB
  unfold loB at h1
  unfold hiB at h2
  rw [if_neg (by decide)] at h1 h2
  rw [if_neg (by decide), if_neg (by decide)]
  dsimp only
  omega
theorem GF {b : B4} {w a : Int} (hb : okB b = true) (hw : w = 0 ∨ w = 1) (h1 : loB b w ≤ a) (h2 : a < hiB b w) : okB (upB b w a) = true ∧ okB (owB b w (a + 1)) = true := by
 rw [ZG] at *
 rw [ZG]
 rcases hw with rfl | rfl
 ·unfold upB owB
  unfold loB at h1
  unfold hiB at h2
  rw [if_pos rfl] at h1 h2
  rw [if_pos rfl, if_pos rfl]
  dsimp only
  omega
 ·unfold upB owB
  unfold loB at h1
  unfold hiB at h2
  rw [if_neg (by decide)] at h1 h2
  rw [if_neg (by decide), if_neg (by decide)]
  dsimp only
  omega
theorem LN {bs : List B4} {b c : B4} {i : Nat} (hi : bs[i]? = some c) (h : allB c b = true) : ZF bs b (.box (i : Int)) = true := by
 unfold ZF DJ
 have hl := (List.getElem?_eq_some_iff.mp hi).1
 rw [decide_eq_true (show (0 : Int) ≤ (i : Int) by omega), decide_eq_true (show (i : Int) < bs.length by omega), Int.toNat_natCast, hi]
 exact h
theorem Yw {bs : List B4} {b : B4} {w a : Int} {p q : Cv} (hw : w = 0 ∨ w = 1) (h1 : loB b w ≤ a) (h2 : a < hiB b w) (hp : ZF bs (upB b w a) p = true) (hq : ZF bs (owB b w (a + 1)) q = true) : ZF bs b (.cut w a p q) = true := by
 unfold ZF
 rw [Qr.mpr ⟨hw, h1, h2⟩, hp, hq]
 rfl
theorem Cov.sub {bs : List B4} {b : B4} {w a : Int} (h : Cov bs b) (hw : w = 0 ∨ w = 1) (h1 : loB b w ≤ a) (h2 : a < hiB b w) : Cov bs (upB b w a) ∧ Cov bs (owB b w (a + 1)) :=
 ⟨fun u v z => h u v ((Hi hw h1 h2).1 z), fun u v z => h u v ((Hi hw h1 h2).2 z)⟩
noncomputable def Qg (b : B4) (w : Int) (c : B4) : Bool := decide (loB b w ≤ hiB c w) && decide (hiB c w < hiB b w)
noncomputable def C6 (bs : List B4) (b : B4) : Nat := bs.countP (Qg b 0) + bs.countP (Qg b 1)
theorem Kg {α : Type} {p q : α → Bool} : ∀ {l : List α}, (∀ x ∈ l, p x = true → q x = true) → (∃ x ∈ l, q x = true ∧ p x = false) → l.countP p < l.countP q
 | [], _, ⟨x, hx, _⟩ => (nomatch hx)
 | a :: l, h, ⟨x, hx, h1, h2⟩ => by
  have hm : l.countP p ≤ l.countP q := List.countP_mono_left fun y hy => h y (List.mem_cons_of_mem _ hy)
  rw [List.countP_cons, List.countP_cons]
  rcases List.mem_cons.mp hx with rfl | hx
  ·rw [h1, h2]
   simp
   omega
  ·have ih := Kg (fun y hy => h y (List.mem_cons_of_mem _ hy)) ⟨x, hx, h1, h2⟩
   cases e : p a with
   | false => simp; omega
   | true => rw [h a List.mem_cons_self e]; simp; omega
theorem ZbM (bs : List B4) (b : B4) : C6 bs b ≤ 2 * bs.length := by
 unfold C6
 have h1 := List.countP_le_length (l := bs) (p := Qg b 0)
 have h2 := List.countP_le_length (l := bs) (p := Qg b 1)
 omega
theorem YX {b : B4} {w a w' : Int} (hw : w = 0 ∨ w = 1) (hw' : w' = 0 ∨ w' = 1) (h1 : loB b w ≤ a) (h2 : a < hiB b w) (c : B4) : (Qg (upB b w a) w' c = true → Qg b w' c = true) ∧ (Qg (owB b w (a + 1)) w' c = true → Qg b w' c = true) := by
 unfold Qg
 simp only [Bool.and_eq_true, decide_eq_true_eq]
 rcases hw with rfl | rfl <;> rcases hw' with rfl | rfl <;> simp only [upB, owB, loB, hiB, if_true, if_false, Int.reduceEq] at * <;> omega
theorem Od {b : B4} {w a : Int} (hw : w = 0 ∨ w = 1) (c : B4) (e : hiB c w = a) : Qg (upB b w a) w c = false ∧ Qg (owB b w (a + 1)) w c = false := by
 unfold Qg
 simp only [Bool.and_eq_false_iff, decide_eq_false_iff_not]
 rcases hw with rfl | rfl <;> simp only [upB, owB, loB, hiB, if_true, if_false, Int.reduceEq] at * <;> omega
theorem TZ {bs : List B4} {b : B4} {w a : Int} (hw : w = 0 ∨ w = 1) (h1 : loB b w ≤ a) (h2 : a < hiB b w) {c : B4} (hc : c ∈ bs) (e : hiB c w = a) : C6 bs (upB b w a) < C6 bs b ∧ C6 bs (owB b w (a + 1)) < C6 bs b := by
 have here : Qg b w c = true := by
  unfold Qg
  rw [e, decide_eq_true h1, decide_eq_true h2]
  rfl
 have g := Od (b := b) (a := a) hw c e
 have k := fun w' (hw' : w' = 0 ∨ w' = 1) => (⟨List.countP_mono_left fun c _ => (YX hw hw' h1 h2 c).1, List.countP_mono_left fun c _ => (YX hw hw' h1 h2 c).2⟩ : bs.countP (Qg (upB b w a) w') ≤ bs.countP (Qg b w') ∧ bs.countP (Qg (owB b w (a + 1)) w') ≤ bs.countP (Qg b w'))
 have s1 := Kg (l := bs) (p := Qg (upB b w a) w) (q := Qg b w) (fun c _ => (YX hw hw h1 h2 c).1) ⟨c, hc, here, g.1⟩
 have s2 := Kg (l := bs) (p := Qg (owB b w (a + 1)) w) (q := Qg b w) (fun c _ => (YX hw hw h1 h2 c).2) ⟨c, hc, here, g.2⟩
 unfold C6
 have k0 := k 0 (.inl rfl)
 have k1 := k 1 (.inr rfl)
 rcases hw with rfl | rfl <;> omega
noncomputable def Z7 : PyData → Bool
 | .int _ => true
 | _ => false
noncomputable def Zab (bs : List B4) : PyData → Bool
 | .int k => DJ bs k
 | _ => false
noncomputable def YB (b : B4) : PyData → PyData → Bool
 | .int w, .int a => YR b w a
 | _, _ => false
noncomputable def X8 (bs : List B4) (b : B4) : PyData → Bool
 | .int k => DJ bs k && (match bs[k.toNat]? with | some c => allB c b | none => false)
 | _ => false
noncomputable def upD (b : B4) : PyData → PyData → B4
 | .int w, .int a => upB b w a
 | _, _ => b
noncomputable def owD (b : B4) : PyData → PyData → B4
 | .int w, .int a => owB b w (a + 1)
 | _, _ => b
noncomputable def ZJ (bs : List B4) : Nat → B4 → PyData → Bool
 | 0, _, _ => false
 | _ + 1, b, .tuple [h, k] => isS h (Str.ofString "box") && X8 bs b k
 | n + 1, b, .tuple [h, w, a, p, q] => isS h (Str.ofString "cut") && (YB b w a && (ZJ bs n (upD b w a) p && ZJ bs n (owD b w a) q))
 | _ + 1, _, _ => false
def Pap : Nat → PyData → Prop
 | 0, _ => False
 | _ + 1, .tuple [h, _] => h.canLay0 = true
 | n + 1, .tuple [h, _, _, p, q] => h.canLay0 = true ∧ Pap n p ∧ Pap n q
 | _ + 1, _ => True
theorem Vo {bs : List B4} {n : Nat} {b : B4} {ds : List PyData} (h2 : ds.length ≠ 2) (h5 : ds.length ≠ 5) : ZJ bs (n + 1) b (.tuple ds) = false := by
 unfold ZJ
 split
 ·cases ‹_›
 ·rename_i e
  simp only [PyData.tuple.injEq] at e
  rw [e] at h2
  exact absurd rfl h2
 ·rename_i e
  simp only [PyData.tuple.injEq] at e
  rw [e] at h5
  exact absurd rfl h5
 ·rfl
theorem Gp {ds : List PyData} (h : ds.length = 2) : ∃ a b, ds = [a, b] := by
 match ds, h with
 | [a, b], _ => exact ⟨a, b, rfl⟩
theorem Kn {ds : List PyData} (h : ds.length = 5) : ∃ a b c d e, ds = [a, b, c, d, e] := by
 match ds, h with
 | [a, b, c, d, e], _ => exact ⟨a, b, c, d, e, rfl⟩
theorem Pap.up : ∀ {n : Nat} {d : PyData}, Pap n d → Pap (n + 1) d
 | 0, _, h => h.elim
 | n + 1, d, h => by
  cases d with
  | tuple ds =>
   by_cases h2 : ds.length = 2
   ·obtain ⟨a, b, rfl⟩ := Gp h2
    exact h
   ·by_cases h5 : ds.length = 5
    ·obtain ⟨a, b, c, p, q, rfl⟩ := Kn h5
     exact ⟨h.1, Pap.up h.2.1, Pap.up h.2.2⟩
    ·match ds, h2, h5 with
     | [], _, _ => trivial
     | [_], _, _ => trivial
     | [_, _], h2, _ => exact absurd rfl h2
     | [_, _, _], _, _ => trivial
     | [_, _, _, _], _, _ => trivial
     | [_, _, _, _, _], _, h5 => exact absurd rfl h5
     | _ :: _ :: _ :: _ :: _ :: _ :: _, _, _ => trivial
  | _ => trivial
theorem Pap.le {n m : Nat} {d : PyData} (h : Pap n d) (hm : n ≤ m) : Pap m d := by
 obtain ⟨k, rfl⟩ := Nat.exists_eq_add_of_le hm
 clear hm
 induction k with
 | zero => exact h
 | succ k ih => exact ih.up
theorem YF {bs : List B4} : ∀ {n : Nat} {b : B4} {d : PyData}, Pap n d → ZJ bs (n + 1) b d = ZJ bs n b d
 | 0, _, _, h => h.elim
 | n + 1, b, d, h => by
  cases d with
  | tuple ds =>
   by_cases h2 : ds.length = 2
   ·obtain ⟨x, y, rfl⟩ := Gp h2
    rfl
   ·by_cases h5 : ds.length = 5
    ·obtain ⟨x, y, c, p, q, rfl⟩ := Kn h5
     show (isS x _ && (YB b y c && (ZJ bs (n + 1) _ p && ZJ bs (n + 1) _ q))) = (isS x _ && (YB b y c && (ZJ bs n _ p && ZJ bs n _ q)))
     rw [YF h.2.1, YF h.2.2]
    ·rw [Vo h2 h5, Vo h2 h5]
  | _ => rfl
def Cv.wok : Cv → Prop
 | .box k => 0 ≤ k ∧ k < 7
 | .cut w _ p q => (w = 0 ∨ w = 1) ∧ p.wok ∧ q.wok
theorem VY {s : String} (h : autoParam ((PyData.str (Str.ofString s)).canLay0 = true) zz10._auto_1) : (PyData.str (Str.ofString s)).canLay0 = true := h
theorem Dv : ∀ {c : Cv} {n : Nat}, c.dep ≤ n → Pap n (cvD c)
 | c, 0, h => by have := c.Kq; omega
 | .box k, n + 1, _ => VY (s := "box")
 | .cut w a p q, n + 1, h => by
  rw [Vd] at h
  exact ⟨VY (s := "cut"), Dv (by omega), Dv (by omega)⟩
def spW : DSp := fun xs M Φ => on1 xs fun x => onD x fun d => Φ (.dat (.bool (Z7 d))) M
theorem ZeD (xs : List DV) (M : Mp) (Φ : DK) : spW xs M Φ = (on1 xs fun x => onD x fun d => Φ (.dat (.bool (Z7 d))) M) := propext Iff.rfl
def XG : DSp := fun xs M Φ => on2 xs fun x y => onX x fun a => onX y fun b => Φ (.dat (.bool (allB a b))) M
theorem Ex (xs : List DV) (M : Mp) (Φ : DK) : XG xs M Φ = (on2 xs fun x y => onX x fun a => onX y fun b => Φ (.dat (.bool (allB a b))) M) := propext Iff.rfl
def Zdl : DSp := fun xs M Φ => on3 xs fun x y z => onX x fun b => onI y fun i => onI z fun a => Φ (.dat (bD (upB b i a))) M
theorem Zcw (xs : List DV) (M : Mp) (Φ : DK) : Zdl xs M Φ = (on3 xs fun x y z => onX x fun b => onI y fun i => onI z fun a => Φ (.dat (bD (upB b i a))) M) := propext Iff.rfl
def Zdp : DSp := fun xs M Φ => on3 xs fun x y z => onX x fun b => onI y fun i => onI z fun a => Φ (.dat (bD (owB b i a))) M
theorem ZbL (xs : List DV) (M : Mp) (Φ : DK) : Zdp xs M Φ = (on3 xs fun x y z => onX x fun b => onI y fun i => onI z fun a => Φ (.dat (bD (owB b i a))) M) := propext Iff.rfl
def S2 : DSp := fun xs M Φ => on2 xs fun x y => J9 x fun bs => onD y fun k => Φ (.dat (.bool (Zab bs k))) M
theorem TM (xs : List DV) (M : Mp) (Φ : DK) : S2 xs M Φ = (on2 xs fun x y => J9 x fun bs => onD y fun k => Φ (.dat (.bool (Zab bs k))) M) := propext Iff.rfl
def Lo : DSp := fun xs M Φ => on3 xs fun x y z => onX x fun b => onD y fun i => onD z fun a => Φ (.dat (.bool (YB b i a))) M
theorem Ml (xs : List DV) (M : Mp) (Φ : DK) : Lo xs M Φ = (on3 xs fun x y z => onX x fun b => onD y fun i => onD z fun a => Φ (.dat (.bool (YB b i a))) M) := propext Iff.rfl
def Y1 (n : Nat) : DSp := fun xs M Φ => on3 xs fun x y z => J9 x fun bs => onX y fun b => onD z fun d => Pap n d ∧ Φ (.dat (.bool (ZJ bs n b d))) M
theorem LK (n : Nat) (xs : List DV) (M : Mp) (Φ : DK) : Y1 n xs M Φ = (on3 xs fun x y z => J9 x fun bs => onX y fun b => onD z fun d => Pap n d ∧ Φ (.dat (.bool (ZJ bs n b d))) M) := propext Iff.rfl
theorem GD (xs : List DV) (M : Mp) (Φ : DK) : ¬ Y1 0 xs M Φ := fun h => by
 replace h := Z3 h
 obtain ⟨x, y, z, rfl, h⟩ := h
 replace h := ZW h
 obtain ⟨bs, rfl, h⟩ := h
 replace h := ZK h
 obtain ⟨b, rfl, h⟩ := h
 replace h := QY h
 obtain ⟨d, rfl, h, _⟩ := h
 exact h
noncomputable def shB (c : B4) : B4 := ⟨c.x, c.y, c.x - 1, c.y - 1⟩
noncomputable def dbl (bs : List B4) : List B4 := bs ++ bs.map shB
theorem ZdJ (c : B4) (w : Int) : hiB (shB c) w = loB c w - 1 := by
 unfold hiB loB shB
 split <;> rfl
def RW (bs : List B4) (b : B4) (w z : Int) : Prop := (loB b w ≤ z ∧ z < hiB b w) ∧ ∃ c ∈ dbl bs, hiB c w = z
theorem Dm {b : B4} {w : Int} (h : w = 0 ∨ w = 1) (P : PyData → Prop) : KR [.int b.x, .int b.y] w P = P (.int (loB b w)) := by
 rcases h with rfl | rfl <;> rfl
theorem CQ {b : B4} {w : Int} (h : w = 0 ∨ w = 1) (P : PyData → Prop) : KR [.int b.X, .int b.Y] w P = P (.int (hiB b w)) := by
 rcases h with rfl | rfl <;> rfl
noncomputable def plB (b : B4) (w : Int) (bs : List B4) : List Int := bs.flatMap fun c => if JI c b = 0 then [loB c w - 1, hiB c w] else []
theorem Ox {b c : B4} {w : Int} {bs : List B4} {i : Nat} (h : bs[i]? = some c) : plB b w (bs.take (i + 1)) = plB b w (bs.take i) ++ (if JI c b = 0 then [loB c w - 1, hiB c w] else []) := by
 unfold plB
 rw [List.take_add_one, h, List.flatMap_append]
 simp
theorem Hs (b : B4) (w : Int) (bs : List B4) : (plB b w bs).length ≤ bs.length * 2 :=
 XJ _ 2 bs fun c _ => by split <;> simp
theorem TU {b : B4} {w z : Int} {bs : List B4} (h : z ∈ plB b w bs) : ∃ c ∈ dbl bs, hiB c w = z := by
 obtain ⟨c, hc, hz⟩ := List.mem_flatMap.mp h
 split at hz
 ·simp only [List.mem_cons, List.not_mem_nil, or_false] at hz
  rcases hz with rfl | rfl
  ·exact ⟨shB c, List.mem_append_right _ (List.mem_map_of_mem hc), ZdJ c w⟩
  ·exact ⟨c, List.mem_append_left _ hc, rfl⟩
 ·cases hz
theorem Tw {b c : B4} {w : Int} {bs : List B4} (hc : c ∈ bs) (h0 : JI c b = 0) : hiB c w ∈ plB b w bs :=
 List.mem_flatMap.mpr ⟨c, hc, by rw [if_pos h0]; simp⟩
theorem Si {bs : List B4} {b : B4} (hb : okB b = true) (hc : Cov bs b) (hn : ∀ c ∈ bs, allB c b = false) : ∃ c ∈ bs, JI c b = 0 ∧ (Qg b 0 c = true ∨ Qg b 1 c = true) := by
 rw [ZG] at hb
 obtain ⟨c, hm, h⟩ := List.any_eq_true.mp (hc b.x b.y (by rw [Zu]; omega))
 rw [Zu] at h
 have hi : ¬ allB c b = true := by rw [hn c hm]; exact Bool.false_ne_true
 rw [allB_iff] at hi
 refine ⟨c, hm, ?_, ?_⟩
 ·unfold JI btw gp
  omega
 ·unfold Qg
  simp only [Bool.and_eq_true, decide_eq_true_eq, loB, hiB, if_true, if_false, Int.reduceEq]
  omega
theorem LQ {b c : B4} {w : Int} : Qg b w c = true ↔ loB b w ≤ hiB c w ∧ hiB c w < hiB b w := by
 unfold Qg
 simp only [Bool.and_eq_true, decide_eq_true_eq]
def W9 : DSp := fun xs M Φ => on3 xs fun x y z => J9 x fun bs => onX y fun b => onI z fun w => (bs.length ≤ 6 ∧ (w = 0 ∨ w = 1)) ∧ ∀ ks : List Int, (∀ z ∈ ks, RW bs b w z) → (∀ c ∈ bs, JI c b = 0 → Qg b w c = true → hiB c w ∈ ks) → Φ (.dat (.list (ks.map PyData.int))) M
theorem EJ (xs : List DV) (M : Mp) (Φ : DK) : W9 xs M Φ = (on3 xs fun x y z => J9 x fun bs => onX y fun b => onI z fun w => (bs.length ≤ 6 ∧ (w = 0 ∨ w = 1)) ∧ ∀ ks : List Int, (∀ z ∈ ks, RW bs b w z) → (∀ c ∈ bs, JI c b = 0 → Qg b w c = true → hiB c w ∈ ks) → Φ (.dat (.list (ks.map PyData.int))) M) := propext Iff.rfl
def Y3 (n : Nat) : DSp := fun xs M Φ => on2 xs fun x y => J9 x fun bs => onX y fun b => ((bs.length ≤ 6 ∧ okB b = true ∧ Cov bs b) ∧ C6 (dbl bs) b < n) ∧ ∀ c, ZF bs b c = true → c.dep ≤ n → Φ (.dat (cvD c)) M
theorem Fz (n : Nat) (xs : List DV) (M : Mp) (Φ : DK) : Y3 n xs M Φ = (on2 xs fun x y => J9 x fun bs => onX y fun b => ((bs.length ≤ 6 ∧ okB b = true ∧ Cov bs b) ∧ C6 (dbl bs) b < n) ∧ ∀ c, ZF bs b c = true → c.dep ≤ n → Φ (.dat (cvD c)) M) := propext Iff.rfl
theorem Gr (xs : List DV) (M : Mp) (Φ : DK) : ¬ Y3 0 xs M Φ := fun h => by
 replace h := Zx h
 obtain ⟨x, y, rfl, h⟩ := h
 replace h := ZW h
 obtain ⟨bs, rfl, h⟩ := h
 replace h := ZK h
 obtain ⟨b, rfl, h⟩ := h
 exact absurd h.1.2 (Nat.not_lt_zero _)
def Lst (bs : List B4) (b : B4) (u v : Int) : Prop := (hasB b u v = true ∧ anyB bs u v = false) ∧ ∀ u' v', hasB b u' v' = true → anyB bs u' v' = false → u < u' ∨ (u = u' ∧ v ≤ v')
def KD : DSp := fun xs M Φ => on2 xs fun x y => J9 x fun bs => onX y fun b => (Shp bs ∧ okB b = true) ∧ (Cov bs b → ∀ c, ZF bs b c = true → c.dep ≤ 25 → Φ (.dat (.tuple [.str (Str.ofString "yes"), cvD c])) M) ∧ ∀ u v, Lst bs b u v → Φ (.dat (.tuple [.str (Str.ofString "no"), .tuple [.int u, .int v]])) M
theorem Bz (xs : List DV) (M : Mp) (Φ : DK) : KD xs M Φ = (on2 xs fun x y => J9 x fun bs => onX y fun b => (Shp bs ∧ okB b = true) ∧ (Cov bs b → ∀ c, ZF bs b c = true → c.dep ≤ 25 → Φ (.dat (.tuple [.str (Str.ofString "yes"), cvD c])) M) ∧ ∀ u v, Lst bs b u v → Φ (.dat (.tuple [.str (Str.ofString "no"), .tuple [.int u, .int v]])) M) := propext Iff.rfl
theorem Oj {bs : List B4} {b : B4} (hb : okB b = true) (hs : ∀ c ∈ bs, okB c = true) (r : Int × Int) (hr : r ∈ (QS b bs).map fun p => (p.x, p.y)) (lr : ∀ s ∈ (QS b bs).map (fun p => (p.x, p.y)), ltP s r = false) : Lst bs b r.1 r.2 := by
 obtain ⟨p, mp, rfl⟩ := List.mem_map.mp hr
 have op := ZG.mp (Ux hb mp).1
 have la := JN hb hs p.x p.y
 rw [List.any_eq_true.mpr ⟨p, mp, by rw [Zu]; omega⟩] at la
 have la := (Bool.and_eq_true _ _).mp la.symm
 refine ⟨⟨la.1, by simpa using la.2⟩, fun u v hu nu => ?_⟩
 have lb := JN hb hs u v
 rw [hu, show (bs.any fun b => hasB b u v) = false from nu] at lb
 obtain ⟨p', mp', hp'⟩ := List.any_eq_true.mp (by exact lb)
 rw [Zu] at hp'
 have := lr (p'.x, p'.y) (List.mem_map.mpr ⟨p', mp', rfl⟩)
 unfold ltP at this
 dsimp only at this ⊢
 split at this <;> simp only [decide_eq_false_iff_not] at this <;> omega
theorem OK {bs : List B4} {b : B4} (hb : okB b = true) (hs : ∀ c ∈ bs, okB c = true) (h : QS b bs = []) : Cov bs b := fun u v hu => by
 have la := JN hb hs u v
 rw [h, hu] at la
 simpa using la
theorem Bw {b : Bool} {A B : Prop} (h1 : b = true → A) (h2 : ¬ b = true → B) : if b = true then A else B := by
 cases b
 ·exact h2 (by decide)
 ·exact h1 rfl
def Cvs (bs b1 : List B4) (cs : List Cv) : Prop := cs.length = b1.length ∧ ∀ (i : Nat) (b : B4) (c : Cv), b1[i]? = some b → cs[i]? = some c → ZF bs b c = true ∧ c.dep ≤ 25
theorem Cvs.snoc {bs b1 : List B4} {cs : List Cv} {b : B4} {c : Cv} (h : Cvs bs b1 cs) (hc : ZF bs b c = true) (dc : c.dep ≤ 25) : Cvs bs (b1 ++ [b]) (cs ++ [c]) := by
 refine ⟨by rw [List.length_append, List.length_append, h.1]; rfl, fun i x y hx hy => ?_⟩
 by_cases hi : i < b1.length
 ·rw [List.getElem?_append_left hi] at hx
  rw [List.getElem?_append_left (by rw [h.1]; exact hi)] at hy
  exact h.2 i x y hx hy
 ·rw [List.getElem?_append_right (by omega)] at hx
  rw [List.getElem?_append_right (by rw [h.1]; omega), h.1] at hy
  cases e : i - b1.length with
  | zero =>
   rw [e] at hx hy
   cases hx
   cases hy
   exact ⟨hc, dc⟩
  | succ n => rw [e] at hx; cases hx
theorem Lst.Zgw {bs : List B4} {b : B4} {u v : Int} (h : Lst bs b u v) : ¬ Cov bs b := fun c => by
 have := c u v h.1.1
 rw [h.1.2] at this
 cases this
noncomputable def ZeK (c : Cv) : PyData := .tuple [.str (Str.ofString "yes"), cvD c]
def UC : DSp := fun xs M Φ => on2 xs fun x y => J9 x fun b1 => J9 y fun b2 => (Shp b1 ∧ Shp b2 ∧ ∀ b ∈ b1, Cov b2 b) ∧ ∀ cs : List Cv, Cvs b2 b1 cs → Φ (.dat (.tuple [.str (Str.ofString "yes"), .list (cs.map cvD)])) M
theorem Ew (xs : List DV) (M : Mp) (Φ : DK) : UC xs M Φ = (on2 xs fun x y => J9 x fun b1 => J9 y fun b2 => (Shp b1 ∧ Shp b2 ∧ ∀ b ∈ b1, Cov b2 b) ∧ ∀ cs : List Cv, Cvs b2 b1 cs → Φ (.dat (.tuple [.str (Str.ofString "yes"), .list (cs.map cvD)])) M) := propext Iff.rfl
def ZcU (o : OO) : Prop := ∃ a b c : Int, 0 ≤ a ∧ (0 ≤ b ∧ b < 2147483587) ∧ 0 ≤ c ∧ o = .lst [.int a, .int b, .int c]
def Pen (M : Mp) (p : Addr) : Prop := ∃ o, ZcU o ∧ M p = some o
theorem Pen.Z8 {M : Mp} {p : Addr} {o : OO} (h : ZcU o) : Pen (Z8 M p o) p := ⟨o, h, ZU⟩
theorem Pen.ne {M : Mp} {p q : Addr} (h : Pen M p) (hq : M q = none) : p ≠ q := fun e => by
 obtain ⟨o, _, ho⟩ := h
 rw [e, hq] at ho
 cases ho
theorem Pen.put {M : Mp} {p q : Addr} {o : OO} (h : Pen M p) (hq : p ≠ q) : Pen (DL.Z8 M q o) p := by
 obtain ⟨o', h1, h2⟩ := h
 exact ⟨o', h1, by rw [Qy hq]; exact h2⟩
theorem Pen.del {M : Mp} {p q : Addr} (h : Pen M p) (hq : p ≠ q) : Pen (DL.Ku M q) p := by
 obtain ⟨o', h1, h2⟩ := h
 exact ⟨o', h1, by rw [BU hq]; exact h2⟩
def Zdh (x : DV) (P : List Int → Prop) : Prop := ∃ ns, x = .dat (.list (ns.map PyData.int)) ∧ P ns
theorem Ti {x : DV} {P : List Int → Prop} (h : Zdh x P) : ∃ ns, x = .dat (.list (ns.map PyData.int)) ∧ P ns := h
theorem Kh : ∀ {as bs : List Int}, as.map PyData.int = bs.map PyData.int → as = bs
 | [], [], _ => rfl
 | [], _ :: _, h => by simp at h
 | _ :: _, [], h => by simp at h
 | a :: as, b :: bs, h => by
  rw [List.map_cons, List.map_cons, List.cons.injEq, PyData.int.injEq] at h
  rw [h.1, Kh h.2]
theorem T2 (bs : List Int) (P : List Int → Prop) : Zdh (.dat (.list (bs.map PyData.int))) P = P bs := propext ⟨fun ⟨cs, e, h⟩ => by
 rw [DV.dat.injEq, PyData.list.injEq] at e
 rw [Kh e]
 exact h, fun h => ⟨bs, rfl, h⟩⟩
theorem tab {l : List Int} {r : Int} (P : Int → Prop) (h0 : 0 ≤ r) (h1 : r < l.length) (hl : ∀ w ∈ l, P w) {Q : PyData → Prop} (k : ∀ w, P w → Q (.int w)) : KR (l.map PyData.int) r Q := by
 obtain ⟨w, hw, e⟩ := Sw h0 h1
 exact Q7 e (k w (hl w hw))
def E3 : DSp := fun xs M Φ => on2 xs fun x y => Zdh x fun ns => onI y fun k => 0 ≤ k ∧ ∀ p o, M p = none → ZcU o → Φ (.own p) (Z8 M p o)
theorem NN (xs : List DV) (M : Mp) (Φ : DK) : E3 xs M Φ = (on2 xs fun x y => Zdh x fun ns => onI y fun k => 0 ≤ k ∧ ∀ p o, M p = none → ZcU o → Φ (.own p) (Z8 M p o)) := propext Iff.rfl
def Fr (p : Addr) (M M' : Mp) : Prop := Pen M' p ∧ ∀ a, a ≠ p → M a ≠ none → M' a = M a
theorem Fr.refl {p : Addr} {M : Mp} (h : Pen M p) : Fr p M M := ⟨h, fun _ _ _ => rfl⟩
theorem Fr.trans {p : Addr} {M M1 M2 : Mp} (h : Fr p M M1) (k : Fr p M1 M2) : Fr p M M2 := ⟨k.1, fun a ha hn => by
 have e := h.2 a ha hn
 rw [← e]
 exact k.2 a ha (by rw [e]; exact hn)⟩
theorem Fr.Z8 {p : Addr} {M : Mp} {o : OO} (h : ZcU o) : Fr p M (Z8 M p o) := ⟨Pen.Z8 h, fun a ha _ => Qy ha⟩
theorem Fr.own {p q : Addr} {M M' : Mp} {o : OO} (h : Fr p M M') (hq : M q = some o) (hne : q ≠ p) : M' q = some o := by
 rw [h.2 q hne (by rw [hq]; exact Option.some_ne_none _)]
 exact hq
theorem Fr.new {p q : Addr} {M M' : Mp} {o : OO} (h : Fr p M M') (hq : M q = none) (hne : q ≠ p) : Fr p M (DL.Z8 M' q o) := ⟨h.1.put (Ne.symm hne), fun a ha hn => by
 rw [Qy (fun e => hn (by rw [e]; exact hq))]
 exact h.2 a ha hn⟩
def V9 : DSp := fun xs M Φ => on2 xs fun x y => onO x fun p => onI y fun m => (0 < m ∧ m < 10 ^ 20) ∧ Pen M p ∧ ∀ r M', 0 ≤ r → r < m → Fr p M M' → Φ (.dat (.int r)) M'
theorem O8 (xs : List DV) (M : Mp) (Φ : DK) : V9 xs M Φ = (on2 xs fun x y => onO x fun p => onI y fun m => (0 < m ∧ m < 10 ^ 20) ∧ Pen M p ∧ ∀ r M', 0 ≤ r → r < m → Fr p M M' → Φ (.dat (.int r)) M') := propext Iff.rfl
theorem Pen.get {M : Mp} {p : Addr} (h : Pen M p) : ∃ a b c : Int, (0 ≤ a ∧ (0 ≤ b ∧ b < 2147483587) ∧ 0 ≤ c) ∧ M p = some (.lst [.int a, .int b, .int c]) := by
 obtain ⟨o, ⟨a, b, c, ha, hb, hc, eo⟩, hp⟩ := h
 exact ⟨a, b, c, ⟨ha, hb, hc⟩, by rw [hp, eo]⟩
theorem ME {R : Int → Int → Prop} {bs es : List Int} {A B : Int} (hl : bs.length = es.length) (h : ∀ (i : Nat) (a b : Int), bs[i]? = some a → es[i]? = some b → R a b) (k : R A B) : ∀ (i : Nat) (a b : Int), (bs ++ [A])[i]? = some a → (es ++ [B])[i]? = some b → R a b := fun i a b ha hb => by
 by_cases hi : i < bs.length
 ·rw [List.getElem?_append_left hi] at ha
  rw [List.getElem?_append_left (by omega)] at hb
  exact h i a b ha hb
 ·have h1 := (List.getElem?_eq_some_iff.mp ha).1
  rw [List.length_append, List.length_singleton] at h1
  obtain rfl : i = bs.length := by omega
  rw [List.getElem?_append_right (Nat.le_refl _), Nat.sub_self] at ha
  rw [hl, List.getElem?_append_right (Nat.le_refl _), Nat.sub_self] at hb
  cases ha
  cases hb
  exact k
theorem BM {l : List Int} (h : l.length = 2) : ∃ a b, l = [a, b] := by
 match l, h with
 | [a, b], _ => exact ⟨a, b, rfl⟩
def Grd (n : Nat) (bs : List B4) : Prop := 1 ≤ bs.length ∧ bs.length ≤ n ∧ ∀ b ∈ bs, Cel b
def Frm (t ox oy : Int) : Prop := (1 ≤ t ∧ t ≤ 10 ^ 10) ∧ (-(10 ^ 12) ≤ ox ∧ ox ≤ 10 ^ 12) ∧ (-(10 ^ 12) ≤ oy ∧ oy ≤ 10 ^ 12)
def CM (x : DV) (P : Int → Int → Int → Prop) : Prop := match x with | .dat (.tuple [.int i, .int j, .int k]) => P i j k | _ => False
theorem HN (i j k : Int) (P : Int → Int → Int → Prop) : CM (.dat (.tuple [.int i, .int j, .int k])) P = P i j k := propext Iff.rfl
theorem Fl {x : DV} {P : Int → Int → Int → Prop} (h : CM x P) : ∃ i j k, x = .dat (.tuple [.int i, .int j, .int k]) ∧ P i j k := by
 unfold CM at h
 split at h
 ·exact ⟨_, _, _, rfl, h⟩
 ·exact h.elim
def GB : DSp := fun xs M Φ => on1 xs fun x => onO x fun p => Pen M p ∧ ∀ bs M', Grd 6 bs → Pen M' p → Φ (.dat (.list (bs.map bD))) M'
theorem Pa (xs : List DV) (M : Mp) (Φ : DK) : GB xs M Φ = (on1 xs fun x => onO x fun p => Pen M p ∧ ∀ bs M', Grd 6 bs → Pen M' p → Φ (.dat (.list (bs.map bD))) M') := propext Iff.rfl
def Nb : DSp := fun xs M Φ => on2 xs fun x y => onO x fun p => onX y fun b => Cel b ∧ Pen M p ∧ ∀ c M', Cel c → Fr p M M' → Φ (.dat (bD c)) M'
theorem RX (xs : List DV) (M : Mp) (Φ : DK) : Nb xs M Φ = (on2 xs fun x y => onO x fun p => onX y fun b => Cel b ∧ Pen M p ∧ ∀ c M', Cel c → Fr p M M' → Φ (.dat (bD c)) M') := propext Iff.rfl
def UH : DSp := fun xs M Φ => on1 xs fun x => onO x fun p => Pen M p ∧ ∀ t ox oy M', Frm t ox oy → Pen M' p → Φ (.dat (.tuple [.int t, .int ox, .int oy])) M'
theorem En (xs : List DV) (M : Mp) (Φ : DK) : UH xs M Φ = (on1 xs fun x => onO x fun p => Pen M p ∧ ∀ t ox oy M', Frm t ox oy → Pen M' p → Φ (.dat (.tuple [.int t, .int ox, .int oy])) M') := propext Iff.rfl
def Fi : DSp := fun xs M Φ => on2 xs fun x y => Pr x fun bs => CM y fun t ox oy => Grd 6 bs ∧ Φ (.dat (.tuple ((bs.map (Vn t ox oy)).map bD))) M
theorem OU (xs : List DV) (M : Mp) (Φ : DK) : Fi xs M Φ = (on2 xs fun x y => Pr x fun bs => CM y fun t ox oy => Grd 6 bs ∧ Φ (.dat (.tuple ((bs.map (Vn t ox oy)).map bD))) M) := propext Iff.rfl
def Cells (bs : List B4) (ks : List (List Key)) : Prop := ∀ i j, Rq ks (kP i j) = anyB bs i j
def Sx : DSp := fun xs M Φ => on1 xs fun x => Pr x fun bs => Grd 6 bs ∧ ∀ l ks, M l = none → Cells bs ks → Φ (.own l) (Z8 M l (.dct ks))
def Fs (x : Int) : Prop := -999999999999 ≤ x ∧ x ≤ 999999999999
def Zbi : DSp := fun xs M Φ => on2 xs fun x y => onO x fun p => CM y fun t ox oy => Frm t ox oy ∧ Pen M p ∧ ∀ u v M', Fs u → Fs v → Fr p M M' → Φ (.dat (.tuple [.int u, .int v])) M'
def ZcY : DSp := fun xs M Φ => on3 xs fun x y z => onP x fun i j => CM y fun t ox oy => onP z fun u v => ((-(10 ^ 3) ≤ i ∧ i ≤ 10 ^ 3) ∧ (-(10 ^ 3) ≤ j ∧ j ≤ 10 ^ 3)) ∧ Φ (.dat (.int (ZQ (QN t ox oy i j) u v))) M
noncomputable def Zfm (t ox oy u v : Int) (c : Int × Int) : PyData := .tuple [prD c, .int (ZQ (QN t ox oy c.1 c.2) u v)]
def Oth (bs : List B4) (t ox oy u v : Int) (cs : List (Int × Int)) : Prop := ∀ i j, (i, j) ∈ cs ↔ ((-1 ≤ i ∧ i ≤ 12) ∧ (-1 ≤ j ∧ j ≤ 12)) ∧ anyB bs i j ≠ anyB bs ((u - ox) / t) ((v - oy) / t)
def Zen (x : DV) (M : Mp) (P : List B4 → Prop) : Prop := ∃ l ks bs, x = .own l ∧ M l = some (.dct ks) ∧ Cells bs ks ∧ P bs
def MU : DSp := fun xs M Φ => on3 xs fun x y z => CM y fun t ox oy => onP z fun u v => Zen x M fun bs => Frm t ox oy ∧
 ∀ cs, Oth bs t ox oy u v cs → cs.length ≤ 196 → Φ (.dat (.tuple [.bool (anyB bs ((u - ox) / t) ((v - oy) / t)), .list (cs.map (Zfm t ox oy u v))])) M
theorem Zfa {l : List B4} (h : ∀ b ∈ l, b.x ≤ b.X ∧ b.y ≤ b.Y ∧ (0 ≤ b.x ∧ b.X ≤ 11) ∧ (0 ≤ b.y ∧ b.Y ≤ 11)) : ∀ b ∈ l, Cel b := fun b hb => ⟨ZG.mpr ⟨(h b hb).1, (h b hb).2.1⟩, (h b hb).2.2⟩
def Bq : DSp := fun xs M Φ => on2 xs fun x y => onO x fun p => CM y fun t ox oy => Frm t ox oy ∧ Pen M p ∧ ∀ u v M', Fr p M M' → Φ (.dat (.tuple [.int u, .int v])) M'
theorem Lw (xs : List DV) (M : Mp) (Φ : DK) : Bq xs M Φ = (on2 xs fun x y => onO x fun p => CM y fun t ox oy => Frm t ox oy ∧ Pen M p ∧ ∀ u v M', Fr p M M' → Φ (.dat (.tuple [.int u, .int v])) M') := propext Iff.rfl
theorem Zge {x y X Y : Int} {j : Nat} (h : j < 2) : ∃ lo hi : Int, (lo = x ∧ hi = X ∨ lo = y ∧ hi = Y) ∧ (∀ P : PyData → Prop, KR [.int x, .int y] (j : Int) P = P (.int lo)) ∧ (∀ P : PyData → Prop, KR [.int X, .int Y] (j : Int) P = P (.int hi)) := by
 have two : j = 0 ∨ j = 1 := by omega
 rcases two with rfl | rfl
 ·exact ⟨x, X, .inl ⟨rfl, rfl⟩, fun P => rfl, fun P => rfl⟩
 ·exact ⟨y, Y, .inr ⟨rfl, rfl⟩, fun P => rfl, fun P => rfl⟩
theorem Zf3 {t ox oy : Int} {j : Nat} (h : j < 2) : ∃ o : Int, (o = ox ∨ o = oy) ∧ (∀ P : PyData → Prop, KR [.int t, .int ox, .int oy] (1 + (j : Int)) P = P (.int o)) := by
 have two : j = 0 ∨ j = 1 := by omega
 rcases two with rfl | rfl
 ·exact ⟨ox, .inl rfl, fun P => rfl⟩
 ·exact ⟨oy, .inr rfl, fun P => rfl⟩
def Hm : DSp := fun xs M Φ => on2 xs fun x y => onX x fun c => onX y fun b => Φ (.dat (.bool (inB c b))) M
theorem Mn (xs : List DV) (M : Mp) (Φ : DK) : Hm xs M Φ = (on2 xs fun x y => onX x fun c => onX y fun b => Φ (.dat (.bool (inB c b))) M) := propext Iff.rfl
def Yk : DSp := fun xs M Φ => on3 xs fun x y z => onX x fun b => onI y fun i => onI z fun a => (i = 0 ∨ i = 1) ∧ Φ (.dat (.list [bD (upB b i a), bD (owB b i (a + 1))])) M
theorem Hu (xs : List DV) (M : Mp) (Φ : DK) : Yk xs M Φ = (on3 xs fun x y z => onX x fun b => onI y fun i => onI z fun a => (i = 0 ∨ i = 1) ∧ Φ (.dat (.list [bD (upB b i a), bD (owB b i (a + 1))])) M) := propext Iff.rfl
def Far (b : B4) : Prop := (-(10 ^ 13) ≤ b.x ∧ b.X ≤ 10 ^ 13) ∧ (-(10 ^ 13) ≤ b.y ∧ b.Y ≤ 10 ^ 13)
def Ext (M M' : Mp) : Prop := ∀ a, M a ≠ none → M' a = M a
theorem Ext.refl (M : Mp) : Ext M M := fun _ _ => rfl
theorem Ext.new {M M' : Mp} {q : Addr} {o : OO} (h : Ext M M') (hq : M q = none) : Ext M (Z8 M' q o) := fun a ha => by
 rw [Qy fun e => ha (by rw [e]; exact hq)]
 exact h a ha
theorem Ext.none {M M' : Mp} {q : Addr} (h : Ext M M') (hq : M' q = none) : M q = none := by
 cases e : M q with
 | none => rfl
 | some o => have := h q (by rw [e]; exact Option.some_ne_none _); rw [hq, e] at this; cases this
def Zdq : DSp := fun xs M Φ => on1 xs fun x => onD x fun d => Φ (.dat (.bool (Z7 d))) M
theorem Zco (xs : List DV) (M : Mp) (Φ : DK) : Zdq xs M Φ = (on1 xs fun x => onD x fun d => Φ (.dat (.bool (Z7 d))) M) := propext Iff.rfl
def L1 : DSp := fun xs M Φ => on3 xs fun x y z => J9 x fun bs => onX y fun b => onT z fun ds => ∃ h k, ds = [h, k] ∧ (h.canLay0 = true ∧ okB b = true) ∧ Φ (.dat (.bool (isS h (Str.ofString "box") && X8 bs b k))) M
theorem NR (xs : List DV) (M : Mp) (Φ : DK) : L1 xs M Φ = (on3 xs fun x y z => J9 x fun bs => onX y fun b => onT z fun ds => ∃ h k, ds = [h, k] ∧ (h.canLay0 = true ∧ okB b = true) ∧ Φ (.dat (.bool (isS h (Str.ofString "box") && X8 bs b k))) M) := propext Iff.rfl
def LO (n : Nat) : DSp := fun xs M Φ => on3 xs fun x y z => J9 x fun bs => onX y fun b => onD z fun d => (Pap n d ∧ okB b = true ∧ n ≤ 26) ∧ ∀ M', Ext M M' → Φ (.dat (.bool (ZJ bs n b d))) M'
theorem N4 (n : Nat) (xs : List DV) (M : Mp) (Φ : DK) : LO n xs M Φ = (on3 xs fun x y z => J9 x fun bs => onX y fun b => onD z fun d => (Pap n d ∧ okB b = true ∧ n ≤ 26) ∧ ∀ M', Ext M M' → Φ (.dat (.bool (ZJ bs n b d))) M') := propext Iff.rfl
theorem ZaV {c b : B4} (hb : okB b = true) : inB c b = allB c b := by
 rw [Bool.eq_iff_iff]
 refine ⟨RN hb, fun h => ?_⟩
 have := allB_iff.mp h
 unfold inB
 exact decide_eq_true (by omega)
noncomputable def wD (e : B4 × PyData) : PyData := .tuple [bD e.1, e.2]
def Wait (bs : List B4) (R : Bool) (ws : List (B4 × PyData)) : Prop := (∀ e ∈ ws, okB e.1 = true ∧ Pap 26 e.2) ∧ (ws.all fun e => ZJ bs 26 e.1 e.2) = R
theorem Wait.last {bs : List B4} {R : Bool} {ws : List (B4 × PyData)} {e : B4 × PyData} (h : Wait bs R (ws ++ [e])) : (okB e.1 = true ∧ Pap 26 e.2) ∧ (∀ x ∈ ws, okB x.1 = true ∧ Pap 26 x.2) ∧ ((ws.all fun e => ZJ bs 26 e.1 e.2) && ZJ bs 26 e.1 e.2) = R := by
 obtain ⟨h1, h2⟩ := h
 refine ⟨h1 e (by simp), fun x hx => h1 x (by simp [hx]), ?_⟩
 rw [← h2, List.all_append]
 simp
theorem Wait.no {bs : List B4} {R : Bool} {ws : List (B4 × PyData)} {e : B4 × PyData} (h : Wait bs R (ws ++ [e])) (k : ZJ bs 26 e.1 e.2 = false) : R = false := by
 have := h.last.2.2
 rw [k, Bool.and_false] at this
 exact this.symm
theorem Wait.drop {bs : List B4} {R : Bool} {ws : List (B4 × PyData)} {e : B4 × PyData} (h : Wait bs R (ws ++ [e])) (k : ZJ bs 26 e.1 e.2 = true) : Wait bs R ws := by
 have := h.last.2
 rw [k, Bool.and_true] at this
 exact this
theorem Wait.split {bs : List B4} {R : Bool} {ws : List (B4 × PyData)} {b : B4} {x p q : PyData} {i a : Int} (h : Wait bs R (ws ++ [(b, .tuple [x, .int i, .int a, p, q])])) (hx : isS x (Str.ofString "cut") = true) (hc : YR b i a = true) :
  Wait bs R (ws ++ [(upB b i a, p), (owB b i (a + 1), q)]) := by
 obtain ⟨⟨hb, hp⟩, h1, h2⟩ := h.last
 have hp : Pap 25 p ∧ Pap 25 q := ⟨hp.2.1, hp.2.2⟩
 have hb : okB b = true := hb
 have cc := Qr.mp hc
 have so := GF hb cc.1 cc.2.1 cc.2.2
 refine ⟨fun e he => ?_, ?_⟩
 ·rcases List.mem_append.mp he with he | he
  ·exact h1 e he
  ·simp only [List.mem_cons, List.not_mem_nil, or_false] at he
   rcases he with rfl | rfl
   ·exact ⟨so.1, hp.1.up⟩
   ·exact ⟨so.2, hp.2.up⟩
 ·rw [← h2, List.all_append]
  have e : ZJ bs 26 b (.tuple [x, .int i, .int a, p, q]) = (isS x (Str.ofString "cut") && (YR b i a && (ZJ bs 25 (upB b i a) p && ZJ bs 25 (owB b i (a + 1)) q))) := rfl
  show (_ && _) = (_ && ZJ bs 26 b (.tuple [x, .int i, .int a, p, q]))
  rw [e, hx, hc, ← YF hp.1, ← YF hp.2]
  simp
noncomputable def wsz (ws : List (B4 × PyData)) : Nat := (ws.map fun e => sizeOf e.2).sum
theorem C5 (ws : List (B4 × PyData)) (e : B4 × PyData) : wsz (ws ++ [e]) = wsz ws + sizeOf e.2 := by
 unfold wsz
 rw [List.map_append, List.sum_append]
 simp
theorem size_pos (d : PyData) : 0 < sizeOf d := by cases d <;> simp <;> omega
theorem Le (ws : List (B4 × PyData)) (b b1 b2 : B4) (x i a p q : PyData) : wsz (ws ++ [(b1, p), (b2, q)]) < wsz (ws ++ [(b, .tuple [x, i, a, p, q])]) := by
 rw [C5]
 unfold wsz
 rw [List.map_append, List.sum_append]
 simp
 omega
def Dep (ws : List (B4 × PyData)) : Prop := ∀ j e, ws[j]? = some e → Pap (26 - j) e.2
theorem Dep.drop {ws : List (B4 × PyData)} {e : B4 × PyData} (h : Dep (ws ++ [e])) : Dep ws := fun j x hj => h j x (by rw [List.getElem?_append_left (List.getElem?_eq_some_iff.mp hj).1]; exact hj)
theorem Dep.len {ws : List (B4 × PyData)} (h : Dep ws) : ws.length ≤ 26 := by
 by_cases hl : ws.length ≤ 26
 ·exact hl
 ·have := h 26 _ (List.getElem?_eq_getElem (by omega))
  exact this.elim
theorem Dep.split {ws : List (B4 × PyData)} {b b1 b2 : B4} {x i a p q : PyData} (h : Dep (ws ++ [(b, .tuple [x, i, a, p, q])])) : Dep (ws ++ [(b1, p), (b2, q)]) := by
 have top := h ws.length _ (by rw [List.getElem?_append_right (Nat.le_refl _), Nat.sub_self]; rfl)
 have hl := h.len
 rw [List.length_append, List.length_singleton] at hl
 obtain ⟨n, hn⟩ : ∃ n, 26 - ws.length = n + 1 := ⟨25 - ws.length, by omega⟩
 rw [hn] at top
 have hp : Pap n p ∧ Pap n q := ⟨top.2.1, top.2.2⟩
 intro j e he
 by_cases hj : j < ws.length
 ·rw [List.getElem?_append_left hj] at he
  exact h j e (by rw [List.getElem?_append_left hj]; exact he)
 ·rw [List.getElem?_append_right (by omega)] at he
  have hz := (List.getElem?_eq_some_iff.mp he).1
  simp only [List.length_cons, List.length_nil] at hz
  have two : j = ws.length ∨ j = ws.length + 1 := by omega
  rcases two with rfl | rfl
  ·rw [Nat.sub_self] at he
   cases he
   exact hp.1.le (by omega)
  ·rw [Nat.add_sub_cancel_left] at he
   cases he
   exact hp.2.le (by omega)
theorem Zgp {i j : Nat} {x y : PyData} {Δ : DSt} {M : Mp} {K : DSt → Mp → Prop} (h : K ((Δ.set i (some (.dat x))).set j (some (.dat y))) M) : onT (.dat (.tuple [x, y])) fun ds => Me 2 ds fun xs => CW (Kr i) (CW (Kr j) TQ) xs Δ M K := h
theorem RI {h : PyData} {s : Str} {P : Bool → Prop} (hl : h.canLay0 = true) (hs : (PyData.str s).canLay0 = true) (p : P (isS h s)) : eqD h (.str s) P := Up hl hs p
theorem Nc {t : DTT} {a b : DTS} {D : QD} {Δ : DSt} {M : Mp} (h : ∀ B : DTS, B = b → Zdk t a B D Δ M) : Zdk t a b D Δ M := h b rfl
def ZeG (bs : List B4) (b : B4) (d : PyData) (M0 : Mp) (R : Bool) (m : Nat) (Δ : DSt) (M : Mp) : Prop :=
 ∃ q ws x4 x5 x6 x7 x8, Δ = [some (.dat (.tuple (bs.map bD))), some (.dat (bD b)), some (.dat d), some (.own q), x4, x5, x6, x7, x8] ∧ M q = some (.lst (ws.map wD)) ∧ M0 q = none ∧ Ext M0 M ∧ (Wait bs R ws ∧ Dep ws) ∧ m = wsz ws
def H9 (x : DV) (P : Cv → Prop) : Prop := ∃ c, x = .dat (cvD c) ∧ P c
theorem Qz {c : Cv} {P : Cv → Prop} (h : P c) : H9 (.dat (cvD c)) P := ⟨c, rfl, h⟩
def Zef (x : DV) (P : List Cv → Prop) : Prop := ∃ cs : List Cv, x = .dat (.list (cs.map cvD)) ∧ P cs
theorem Ba {cs : List Cv} {P : List Cv → Prop} (h : P cs) : Zef (.dat (.list (cs.map cvD))) P := ⟨cs, rfl, h⟩
def Wx (bs cs : List B4) : Prop := ∀ u v, anyB bs u v = true → anyB cs u v = true
theorem XT {c b : B4} : inB c b = true ↔ c.x ≤ b.x ∧ c.y ≤ b.y ∧ b.X ≤ c.X ∧ b.Y ≤ c.Y := by
 unfold inB
 rw [decide_eq_true_eq]
theorem OJ {bs : List B4} {b t : B4} {k : Int} (h : ZF bs b (.box k) = true) (hi : inB b t = true) (ht : okB t = true) : ZF bs t (.box k) = true := by
 unfold ZF at h ⊢
 rw [Bool.and_eq_true] at h ⊢
 refine ⟨h.1, ?_⟩
 cases q : bs[k.toNat]? with
 | none => rw [q] at h; exact absurd h.2 Bool.false_ne_true
 | some c =>
  rw [q] at h
  have h2 := allB_iff.mp h.2
  have hi := XT.mp hi
  rw [ZG] at ht
  exact allB_iff.mpr (by omega)
theorem Zb3 {b t : B4} {w a : Int} (hw : w = 0 ∨ w = 1) (h : inB b t = true) : (hiB t w ≤ a → inB (upB b w a) t = true) ∧ (a < loB t w → inB (owB b w (a + 1)) t = true) ∧ inB (upB b w a) (upB t w a) = true ∧ inB (owB b w (a + 1)) (owB t w (a + 1)) = true := by
 simp only [XT] at *
 rcases hw with rfl | rfl <;> simp only [upB, owB, loB, hiB, if_true, if_false, Int.reduceEq] <;> omega
theorem KQ {bs : List B4} {b : B4} {w a : Int} {p q : Cv} (h : ZF bs b (.cut w a p q) = true) : (w = 0 ∨ w = 1) ∧ (loB b w ≤ a ∧ a < hiB b w) ∧ ZF bs (upB b w a) p = true ∧ ZF bs (owB b w (a + 1)) q = true := by
 unfold ZF at h
 rw [Bool.and_eq_true, Bool.and_eq_true, Qr] at h
 exact ⟨h.1.1, h.1.2, h.2⟩
theorem Ta {b : B4} {w a : Int} (hw : w = 0 ∨ w = 1) (h1 : loB b w ≤ a) (h2 : a < hiB b w) : inB b (upB b w a) = true ∧ inB b (owB b w (a + 1)) = true := by
 simp only [XT]
 rcases hw with rfl | rfl <;> simp only [upB, owB, loB, hiB, if_true, if_false, Int.reduceEq] at * <;> omega
def Xi (n : Nat) : DSp := fun xs M Φ => on3 xs fun x y z => H9 x fun c => onX y fun b => onX z fun t => ∃ bs, (ZF bs b c = true ∧ (inB b t = true ∧ okB t = true) ∧ c.dep ≤ n) ∧ ∀ c', ZF bs t c' = true → c'.dep ≤ c.dep → Φ (.dat (cvD c')) M
theorem MX (n : Nat) (xs : List DV) (M : Mp) (Φ : DK) : Xi n xs M Φ = (on3 xs fun x y z => H9 x fun c => onX y fun b => onX z fun t => ∃ bs, (ZF bs b c = true ∧ (inB b t = true ∧ okB t = true) ∧ c.dep ≤ n) ∧ ∀ c', ZF bs t c' = true → c'.dep ≤ c.dep → Φ (.dat (cvD c')) M) := propext Iff.rfl
def Y7 (n : Nat) : DSp := fun xs M Φ => on1 xs fun x => H9 x fun c => c.dep ≤ n ∧ Φ (.dat (.int (c.dep : Nat))) M
theorem HA (n : Nat) (xs : List DV) (M : Mp) (Φ : DK) : Y7 n xs M Φ = (on1 xs fun x => H9 x fun c => c.dep ≤ n ∧ Φ (.dat (.int (c.dep : Nat))) M) := propext Iff.rfl
def Wt (n : Nat) : DSp := fun xs M Φ => on4 xs fun x y z w => H9 x fun c => onX y fun b => J9 z fun b1 => Zef w fun cs => ∃ bs, (ZF b1 b c = true ∧ okB b = true ∧ c.dep ≤ n ∧ Cvs bs b1 cs) ∧ ∀ c', ZF bs b c' = true → c'.dep ≤ c.dep + 24 → Φ (.dat (cvD c')) M
theorem NW (n : Nat) (xs : List DV) (M : Mp) (Φ : DK) : Wt n xs M Φ = (on4 xs fun x y z w => H9 x fun c => onX y fun b => J9 z fun b1 => Zef w fun cs => ∃ bs, (ZF b1 b c = true ∧ okB b = true ∧ c.dep ≤ n ∧ Cvs bs b1 cs) ∧ ∀ c', ZF bs b c' = true → c'.dep ≤ c.dep + 24 → Φ (.dat (cvD c')) M) := propext Iff.rfl
theorem BX (xs : List DV) (M : Mp) (Φ : DK) : ¬ Xi 0 xs M Φ := fun h => by
 replace h := Z3 h
 obtain ⟨x, y, z, rfl, h⟩ := h
 obtain ⟨c, rfl, h⟩ := h
 replace h := ZK h
 obtain ⟨b, rfl, h⟩ := h
 replace h := ZK h
 obtain ⟨t, rfl, bs, ⟨_, _, h⟩, _⟩ := h
 have := c.Kq
 omega
theorem GJ (xs : List DV) (M : Mp) (Φ : DK) : ¬ Y7 0 xs M Φ := fun h => by
 replace h := Qn h
 obtain ⟨x, rfl, h⟩ := h
 obtain ⟨c, rfl, h, _⟩ := h
 have := c.Kq
 omega
theorem B0 (xs : List DV) (M : Mp) (Φ : DK) : ¬ Wt 0 xs M Φ := fun h => by
 replace h := GV h
 obtain ⟨x, y, z, w, rfl, h⟩ := h
 obtain ⟨c, rfl, h⟩ := h
 replace h := ZK h
 obtain ⟨b, rfl, h⟩ := h
 replace h := ZW h
 obtain ⟨b1, rfl, h⟩ := h
 obtain ⟨cs, rfl, bs, ⟨_, _, h, _⟩, _⟩ := h
 have := c.Kq
 omega
def Co : DSp := fun xs M Φ => on2 xs fun x y => onX x fun _ => onX y fun _ => ∀ r : Bool, Φ (.dat (.bool r)) M
theorem LS (xs : List DV) (M : Mp) (Φ : DK) : Co xs M Φ = (on2 xs fun x y => onX x fun _ => onX y fun _ => ∀ r : Bool, Φ (.dat (.bool r)) M) := propext Iff.rfl
def Km : DSp := fun xs M Φ => on2 xs fun x y => onO x fun p => Pr y fun bs => (Grd 6 bs ∧ Pen M p) ∧ ∀ cs M', Grd 6 cs → Wx bs cs → Pen M' p → Φ (.dat (.list (cs.map bD))) M'
theorem Ck (xs : List DV) (M : Mp) (Φ : DK) : Km xs M Φ = (on2 xs fun x y => onO x fun p => Pr y fun bs => (Grd 6 bs ∧ Pen M p) ∧ ∀ cs M', Grd 6 cs → Wx bs cs → Pen M' p → Φ (.dat (.list (cs.map bD))) M') := propext Iff.rfl
theorem Sj {bs : List B4} {b : B4} {k : Int} (h : ZF bs b (.box k) = true) (hb : okB b = true) : ∃ (j : Nat) (c : B4), k = j ∧ bs[j]? = some c ∧ inB c b = true := by
 unfold ZF DJ at h
 rw [Bool.and_eq_true, Bool.and_eq_true, decide_eq_true_eq, decide_eq_true_eq] at h
 obtain ⟨j, rfl⟩ := Int.eq_ofNat_of_zero_le h.1.1
 rw [Int.toNat_natCast] at h
 cases q : bs[j]? with
 | none => rw [q] at h; exact absurd h.2 Bool.false_ne_true
 | some c =>
  rw [q] at h
  have h2 := allB_iff.mp h.2
  exact ⟨j, c, rfl, q, XT.mpr (by omega)⟩
theorem RL (x : PyData) (xs : List PyData) : DL.cutD (x :: xs) (some 1) none = xs := by
 unfold DL.cutD
 rw [HT.Ds, show HT.sIx (x :: xs).length 0 (some 1) = 1 by unfold HT.sIx; simp]
 simp
noncomputable def Bg (q : Int) (b : B4) : B4 := ⟨b.x, b.y, min 11 (b.X + q), min 11 (b.Y + 1 - q)⟩
theorem He {q : Int} {b : B4} (h0 : 0 ≤ q) (h1 : q < 2) (h : Cel b) : Cel (Bg q b) ∧ ∀ u v, hasB b u v = true → hasB (Bg q b) u v = true := by
 obtain ⟨h2, h3, h4⟩ := h
 have ok := ZG.mp h2
 refine ⟨⟨ZG.mpr ?_, ?_, ?_⟩, fun u v k => ?_⟩
 ·unfold Bg; dsimp only; omega
 ·unfold Bg; dsimp only; omega
 ·unfold Bg; dsimp only; omega
 ·rw [Zu] at *
  unfold Bg
  dsimp only
  omega
theorem ZaE {bs : List B4} (hg : Grd 6 bs) {mx my mX mY : Int} (hx : mx ∈ bs.map B4.x) (nx : ∀ a ∈ bs.map B4.x, mx ≤ a) (hy : my ∈ bs.map B4.y) (ny : ∀ a ∈ bs.map B4.y, my ≤ a) (hX : mX ∈ bs.map B4.X) (nX : ∀ a ∈ bs.map B4.X, a ≤ mX) (hY : mY ∈ bs.map B4.Y) (nY : ∀ a ∈ bs.map B4.Y, a ≤ mY) : Grd 6 [⟨mx, my, mX, mY⟩] ∧ Wx bs [⟨mx, my, mX, mY⟩] := by
 have all : ∀ b ∈ bs, mx ≤ b.x ∧ my ≤ b.y ∧ b.X ≤ mX ∧ b.Y ≤ mY := fun b hb => ⟨nx _ (List.mem_map_of_mem hb), ny _ (List.mem_map_of_mem hb), nX _ (List.mem_map_of_mem hb), nY _ (List.mem_map_of_mem hb)⟩
 obtain ⟨b1, m1, e1⟩ := List.mem_map.mp hx
 obtain ⟨b2, m2, e2⟩ := List.mem_map.mp hy
 obtain ⟨b3, m3, e3⟩ := List.mem_map.mp hX
 obtain ⟨b4, m4, e4⟩ := List.mem_map.mp hY
 have k1 := (hg.2.2 b1 m1)
 have k2 := (hg.2.2 b2 m2).2
 have k3 := (hg.2.2 b3 m3).2
 have k4 := (hg.2.2 b4 m4).2
 have ok := ZG.mp k1.1
 have a1 := all b1 m1
 refine ⟨⟨by simp, by simp, fun b hb => ?_⟩, fun u v k => ?_⟩
 ·rw [List.mem_singleton.mp hb]
  have k1 := k1.2
  exact ⟨ZG.mpr (by dsimp only; omega), by dsimp only; omega, by dsimp only; omega⟩
 ·obtain ⟨b, mb, hb⟩ := Qe k
  have := all b mb
  refine J1 (.head _) ?_
  rw [Zu] at *
  dsimp only
  omega
theorem zip_get {b1 : List B4} {cs : List Cv} {i : Nat} {d : PyData} (h : (OE (b1.map bD) (cs.map cvD))[i]? = some d) : ∃ b c, b1[i]? = some b ∧ cs[i]? = some c ∧ d = .tuple [bD b, cvD c] := by
 unfold OE at h
 rw [List.getElem?_zipWith, List.getElem?_map, List.getElem?_map] at h
 cases e : b1[i]? with
 | none => rw [e] at h; cases h
 | some b =>
  cases e2 : cs[i]? with
  | none => rw [e, e2] at h; cases h
  | some c =>
   rw [e, e2] at h
   cases h
   exact ⟨b, c, rfl, rfl, rfl⟩
theorem Ext.own {M M' : Mp} {a : Addr} {o : OO} (h : Ext M M') (k : M a = some o) : M' a = some o := by rw [h a (by rw [k]; exact Option.some_ne_none _)]; exact k
theorem Ext.trans {M M' M'' : Mp} (h : Ext M M') (k : Ext M' M'') : Ext M M'' := fun a ha => by
 have e := h a ha
 rw [k a (by rw [e]; exact ha), e]
theorem Ext.pen {M M' : Mp} {p : Addr} (h : Ext M M') (k : Pen M p) : Pen M' p := by
 obtain ⟨o, ho, hp⟩ := k
 exact ⟨o, ho, h.own hp⟩
theorem XA {bs : List B4} : ∀ {c : Cv} {n : Nat} {b : B4}, c.dep ≤ n → ZJ bs n b (cvD c) = ZF bs b c
 | c, 0, _, h => by have := c.Kq; omega
 | .box k, n + 1, b, _ => by
  show (isS (.str (Str.ofString "box")) (Str.ofString "box") && X8 bs b (.int k)) = ZF bs b (.box k)
  rw [show isS (.str (Str.ofString "box")) (Str.ofString "box") = true by decide +kernel, Bool.true_and]
  rfl
 | .cut w a p q, n + 1, b, h => by
  rw [Vd] at h
  show (isS (.str (Str.ofString "cut")) (Str.ofString "cut") && (YR b w a && (ZJ bs n (upB b w a) (cvD p) && ZJ bs n (owB b w (a + 1)) (cvD q)))) = ZF bs b (.cut w a p q)
  rw [show isS (.str (Str.ofString "cut")) (Str.ofString "cut") = true by decide +kernel, Bool.true_and, XA (by omega), XA (by omega)]
  rfl
def WV : DSp := fun xs M Φ => on2 xs fun x y => J9 x fun b1 => J9 y fun b2 => (Shp b1 ∧ Shp b2 ∧ ∀ b ∈ b1, Cov b2 b) ∧ ∀ cs M', Cvs b2 b1 cs → Ext M M' → Φ (.dat (.list (cs.map cvD))) M'
theorem D6 (xs : List DV) (M : Mp) (Φ : DK) : WV xs M Φ = (on2 xs fun x y => J9 x fun b1 => J9 y fun b2 => (Shp b1 ∧ Shp b2 ∧ ∀ b ∈ b1, Cov b2 b) ∧ ∀ cs M', Cvs b2 b1 cs → Ext M M' → Φ (.dat (.list (cs.map cvD))) M') := propext Iff.rfl
def HB : DSp := fun xs M Φ => on2 xs fun x y => onO x fun p => onX y fun b => (okB b = true ∧ Far b) ∧ Pen M p ∧ ∀ t M', inB b t = true → okB t = true → Fr p M M' → Φ (.dat (bD t)) M'
theorem MD (xs : List DV) (M : Mp) (Φ : DK) : HB xs M Φ = (on2 xs fun x y => onO x fun p => onX y fun b => (okB b = true ∧ Far b) ∧ Pen M p ∧ ∀ t M', inB b t = true → okB t = true → Fr p M M' → Φ (.dat (bD t)) M') := propext Iff.rfl
def Wz : DSp := fun xs M Φ => on3 xs fun x y z => onX x fun b => onI y fun w => H9 z fun c => ∃ bs, (ZF bs b c = true ∧ okB b = true ∧ (w = 0 ∨ w = 1) ∧ c.dep ≤ 30) ∧ ∀ c', ZF bs b c' = true → c'.dep ≤ c.dep + 1 → Φ (.dat (cvD c')) M
theorem EC (xs : List DV) (M : Mp) (Φ : DK) : Wz xs M Φ = (on3 xs fun x y z => onX x fun b => onI y fun w => H9 z fun c => ∃ bs, (ZF bs b c = true ∧ okB b = true ∧ (w = 0 ∨ w = 1) ∧ c.dep ≤ 30) ∧ ∀ c', ZF bs b c' = true → c'.dep ≤ c.dep + 1 → Φ (.dat (cvD c')) M) := propext Iff.rfl
def Yf : DSp := fun xs M Φ => on4 xs fun x y z w => onO x fun p => J9 y fun bs => onX z fun b => H9 w fun c => (ZF bs b c = true ∧ (okB b = true ∧ Far b) ∧ c.dep ≤ 29) ∧ Pen M p ∧ ∀ M', Pen M' p → Φ (.dat (.bool true)) M'
theorem Uc (xs : List DV) (M : Mp) (Φ : DK) : Yf xs M Φ = (on4 xs fun x y z w => onO x fun p => J9 y fun bs => onX z fun b => H9 w fun c => (ZF bs b c = true ∧ (okB b = true ∧ Far b) ∧ c.dep ≤ 29) ∧ Pen M p ∧ ∀ M', Pen M' p → Φ (.dat (.bool true)) M') := propext Iff.rfl
noncomputable def shD (bs : List B4) : PyData := .tuple (bs.map bD)
def W2 : DSp := fun xs M Φ => on2 xs fun x y => onO x fun p => ∃ b1 b2 b3, y = .dat (.list [.tuple (b1.map bD), .tuple (b2.map bD), .tuple (b3.map bD)]) ∧ (Shp b1 ∧ Shp b2 ∧ Shp b3) ∧ (Wx b1 b2 ∧ Wx b2 b3 ∧ ∀ b ∈ b1, Far b) ∧ Pen M p ∧ ∀ M', Pen M' p → Φ (.dat (.bool true)) M'
theorem Eu (xs : List DV) (M : Mp) (Φ : DK) : W2 xs M Φ = (on2 xs fun x y => onO x fun p => ∃ b1 b2 b3, y = .dat (.list [.tuple (b1.map bD), .tuple (b2.map bD), .tuple (b3.map bD)]) ∧ (Shp b1 ∧ Shp b2 ∧ Shp b3) ∧ (Wx b1 b2 ∧ Wx b2 b3 ∧ ∀ b ∈ b1, Far b) ∧ Pen M p ∧ ∀ M', Pen M' p → Φ (.dat (.bool true)) M') := propext Iff.rfl
def WK : DSp := fun xs M Φ => on2 xs fun x y => onP y fun u v => ∃ b1 b2 b3, x = .dat (.list [.tuple (b1.map bD), .tuple (b2.map bD), .tuple (b3.map bD)]) ∧ (Shp b1 ∧ Shp b2 ∧ Shp b3) ∧ (Wx b1 b2 ∧ Wx b2 b3) ∧ Φ (.dat (.bool true)) M
theorem D0 (xs : List DV) (M : Mp) (Φ : DK) : WK xs M Φ = (on2 xs fun x y => onP y fun u v => ∃ b1 b2 b3, x = .dat (.list [.tuple (b1.map bD), .tuple (b2.map bD), .tuple (b3.map bD)]) ∧ (Shp b1 ∧ Shp b2 ∧ Shp b3) ∧ (Wx b1 b2 ∧ Wx b2 b3) ∧ Φ (.dat (.bool true)) M) := propext Iff.rfl
theorem Wx.cov {b1 b2 : List B4} (h : Wx b1 b2) : ∀ b ∈ b1, Cov b2 b := fun b mb u v k => h u v (J1 mb k)
theorem Wx.trans {b1 b2 b3 : List B4} (h : Wx b1 b2) (k : Wx b2 b3) : Wx b1 b3 := fun u v z => k u v (h u v z)
noncomputable def Pq (d wb : Int) : Int := if wb < d then 2 else if d < -wb then 0 else 1
noncomputable abbrev oib : List Str := [Str.ofString "out", Str.ofString "between", Str.ofString "in"]
theorem V0 (d wb : Int) : Yh d wb ∈ oib ∧ ((oib.idxOf (Yh d wb) : Nat) : Int) = Pq d wb := by
 unfold Yh Pq
 split
 ·exact ⟨by decide +kernel, by decide +kernel⟩
 ·split
  ·exact ⟨by decide +kernel, by decide +kernel⟩
  ·exact ⟨by decide +kernel, by decide +kernel⟩
theorem H0 {d e wb : Int} (hw : 0 ≤ wb) (h : d ≤ e) : Pq d wb ≤ Pq e wb := by
 unfold Pq
 split <;> split <;> (try split) <;> (try split) <;> omega
theorem ZeE {a b c : Int} {ns : List Int} (h1 : a ≤ b) (h2 : b ≤ c) (hp : ns.Perm [a, b, c]) (hs : ns.Pairwise (· ≤ ·)) : ns = [a, b, c] :=
 List.Perm.eq_of_pairwise (fun x y _ _ h k => Int.le_antisymm h k) hs (by simp only [List.pairwise_cons, List.mem_cons, List.not_mem_nil, or_false]; refine ⟨fun x hx => by omega, fun x hx => by omega, fun x hx => hx.elim, .nil⟩) hp
theorem ZeM {a b c : Int} {P : Bool → Prop} (p : P true) : eqD (.list [.int a, .int b, .int c]) (.list [.int a, .int b, .int c]) P := by
 refine P9 rfl ?_
 rw [show PyData.eqv (.list [.int a, .int b, .int c]) (.list [.int a, .int b, .int c]) = true by simp only [Oh, CP, By, ZbF, decide_true, Bool.and_self]]
 exact p
theorem three {b1 b2 b3 : List B4} {u v wb d1 d2 d3 : Int} {M : Mp} {F : Prop} {G : List Str → List Str → List Str → Int → Int → Int → Prop} (s1 : Shp b1) (s2 : Shp b2) (s3 : Shp b3) (k1 : IsD (anyB b1) u v d1) (k2 : IsD (anyB b2) u v d2) (k3 : IsD (anyB b3) u v d3) (h1 : d1 ≤ d2) (h2 : d2 ≤ d3) (hw : 0 ≤ wb) (g : ∀ x y z d e f, G x y z d e f) :
  Shp b1 ∧ ∀ d, IsD (anyB b1) u v d → G3 [.str (Str.ofString "out"), .str (Str.ofString "between"), .str (Str.ofString "in")] fun ss => Yh d wb ∈ ss ∧ Shp b2 ∧ ∀ e, IsD (anyB b2) u v e → G3 [.str (Str.ofString "out"), .str (Str.ofString "between"), .str (Str.ofString "in")] fun ss1 => Yh e wb ∈ ss1 ∧ Shp b3 ∧ ∀ f, IsD (anyB b3) u v f →
   G3 [.str (Str.ofString "out"), .str (Str.ofString "between"), .str (Str.ofString "in")] fun ss2 => Yh f wb ∈ ss2 ∧ ∃ ns, J4 [.dat (.list [.int (ss.idxOf (Yh d wb) : Nat), .int (ss1.idxOf (Yh e wb) : Nat), .int (ss2.idxOf (Yh f wb) : Nat)])] M ns ∧ ns.length < 64 ∧
    ∀ ns' : List Int, ns'.Perm ns → ns'.Pairwise (fun x y => x ≤ y) → eqD (.list (ns'.map PyData.int)) (.list [.int (ss.idxOf (Yh d wb) : Nat), .int (ss1.idxOf (Yh e wb) : Nat), .int (ss2.idxOf (Yh f wb) : Nat)]) fun b => if (!b) = true then F else G ss ss1 ss2 d e f := by
 refine ⟨s1, fun d kd => ⟨oib, rfl, (V0 d wb).1, s2, fun e ke => ⟨oib, rfl, (V0 e wb).1, s3, fun f kf => ⟨oib, rfl, (V0 f wb).1, ?_⟩⟩⟩⟩
 have g := g oib oib oib d e f
 rw [(V0 d wb).2, (V0 e wb).2, (V0 f wb).2]
 cases kd.eq k1
 cases ke.eq k2
 cases kf.eq k3
 refine ⟨[Pq d1 wb, Pq d2 wb, Pq d3 wb], .inl rfl, (by decide : 3 < 64), fun ns hp hs => ?_⟩
 rw [ZeE (H0 hw h1) (H0 hw h2) hp hs]
 exact ZeM (by rw [Bool.not_true, if_neg Bool.false_ne_true]; exact g)
theorem Sq {t ox oy : Int} {bs : List B4} (hf : Frm t ox oy) (hg : Grd 6 bs) {c : B4} (hc : c ∈ bs.map (Vn t ox oy)) : Far c := by
 obtain ⟨b, hb, rfl⟩ := List.mem_map.mp hc
 obtain ⟨_, h1, h2⟩ := hg.2.2 b hb
 unfold Frm at hf
 have a1 := Int.mul_nonneg h1.1 (show 0 ≤ t by omega)
 have a2 := Int.mul_nonneg h2.1 (show 0 ≤ t by omega)
 have a3 := Int.mul_le_mul_of_nonneg_right h1.2 (show 0 ≤ t by omega)
 have a4 := Int.mul_le_mul_of_nonneg_right h2.2 (show 0 ≤ t by omega)
 unfold Far Vn
 dsimp only
 omega
theorem strOk {f ox oy : Int} {b : B4} (hf : 1 ≤ f) (h : okB b = true) : okB (Vn f ox oy b) = true := by
 rw [ZG] at *
 unfold Vn
 dsimp only
 have h1 := Int.mul_le_mul_of_nonneg_right h.1 (show 0 ≤ f by omega)
 have h2 := Int.mul_le_mul_of_nonneg_right h.2 (show 0 ≤ f by omega)
 omega
theorem LF {t ox oy : Int} {bs : List B4} (hf : Frm t ox oy) (hg : Grd 6 bs) : Shp (bs.map (Vn t ox oy)) := by
 refine ⟨by rw [List.length_map]; exact hg.1, by rw [List.length_map]; exact hg.2.1, fun c hc => ?_⟩
 obtain ⟨b, hb, rfl⟩ := List.mem_map.mp hc
 exact strOk hf.1.1 (hg.2.2 b hb).1
theorem Wx.laid {t ox oy : Int} {bs cs : List B4} (hf : Frm t ox oy) (h : Wx bs cs) : Wx (bs.map (Vn t ox oy)) (cs.map (Vn t ox oy)) := fun u v k => by
 rw [QC hf.1.1] at k ⊢
 exact h _ _ k
local macro_rules | `(tactic| walk_at "rk") => `(tactic| try simp (config := { maxSteps := 10000000 }) only [↓Of, ↓NG, ↓MI, ↓O0, ↓MH, ↓Mw, ↓Ou, ↓MW, ↓Hy, ↓RH, ↓SG, ↓Rx, ↓Tc, ↓SM, ↓Nw, ↓NT, ↓Nj, ↓ND, ↓Mx, ↓Np, ↓Oy, ↓Nx, ↓Mo, ↓OF, ↓O4, ↓ZcD, ↓Zgk, ↓Zel, ↓Zd5, ↓Zgs, ↓OM, ↓Zcm, ↓ZeH, ↓Zao, ↓TL, ↓Sb, ↓Zd4, ↓ZbO, ↓Zeb, ↓ZaC, ↓ZeI, ↓Zbx, ↓Tr, ↓Zas, ↓Zcq, ↓SQ, ↓Zbm, ↓OQ, ↓Pb, ↓N9, ↓Pd, ↓Oq, ↓Zai, ↓ZdK, ↓R6, ↓R3, ↓Zck, ↓D9, ↓DM, ↓NA, ↓NM, ↓Zb8, ↓Zbr, ↓ES, ↓Rm, ↓ZaM, ↓Rz, ↓ZcW, ↓RF, ↓ZaB, ↓Zcp, ↓XI, ↓Ee, ↓Bh, ↓Ob, ↓O2, ↓RU, ↓R9, ↓Za9, ↓FF, ↓Sr, ↓SE, ↓NC, ↓Tp, ↓ZaS, ↓ZaK, ↓RB, ↓MO, ↓Nn, ↓TH, ↓Zcb, ↓Hj, ↓NV, ↓NY, ↓Zay, ↓Lz, ↓Rh, ↓Ha, ↓Zc9, ↓Oz, ↓Dk, ↓Cq, ↓Mz, ↓Ss, ↓MQ, ↓ZbD, ↓NX, ↓SF, ↓Hq, FU, EZ, MC, O6, O1, Ej, Xk, FW, ZdE, NU, ZbV, Ra, Rb, Pw, ZbE, isNone_none, Cf, DX, Em, BB, UR, BG,
 Option.bind_some, Option.bind_none, Option.join_some, Option.join_none, Option.getD_some, Option.map_some, Option.map_none, List.getElem?_cons_zero, List.getElem?_cons_succ, List.set_cons_zero, List.set_cons_succ, List.map_cons, List.map_nil, List.length_cons, List.length_nil, List.replicate, List.cons_append, List.nil_append, List.any_cons, List.any_nil,
 ZU, Ls, ↓reduceIte, Bool.not_true, Bool.not_false, Bool.or_false, Bool.or_true, Bool.true_or, Bool.false_or, Bool.and_true, Bool.and_false, Bool.true_and, Bool.false_and, Bool.bne_true, Bool.bne_false, Bool.false_eq_true, eq_self, true_and, and_true, Zbp, ZbC, Zc1, exists_eq_left', exists_eq_left, Option.some.injEq, Nat.reduceAdd, Nat.reduceSub, Nat.zero_add, Nat.reduceLT, Nat.reduceLeDiff, Int.reduceToNat, Int.reducePow, Int.reduceSub, Int.reduceMul, Int.reduceAdd, Int.reduceNeg,
 Int.reduceLT, Int.reduceLE, Int.reduceEq, Int.zero_add, Int.cast_ofNat_Int, decide_true, decide_false, sizeLine_eq, By, CP, P6, Zan, Zd3, Oh, ZdU, ZbF, ZdY, ZdR, BL, Bc, Ep, Eg, Ca, Gm, Bn, Gj, UX, Ci, BD, GU, WL, G0, Um, W0, GA, GS, WD, KZ, Uy, Gz, GP, Bd, Bv, GW, Ud, U9, G9, BC, Ed, EE, B8, Gk, Cc, Gg, Gs, Cj, BF, Gu, WT, GK, ↓NS, ↓NF, ↓Pf, ↓OH, Lq, Ff, ↓Rn, ↓Tb, ↓Bk, ↓Zda, ↓Nz, ↓EI, ↓DN, ↓RT, ↓Nv, ↓N1, Zc2, ZcV, ↓Fh, ↓O9, ↓HY, ↓Hk, ↓Rj, ↓SA, ↓RC, ↓Zcz, ↓Nh, ↓ZeD, ↓Ex, ↓Zcw, ↓ZbL, ↓TM, ↓Ml, ↓LK, ↓EJ, ↓Fz, ↓Zez, ↓ZaU, ↓Cq, ↓Ew, ↓Bz, ↓NN, ↓O8, T2, ↓HN, ↓Pa, ↓RX, ↓En, ↓OU, ↓Mn, ↓Hu, ↓RE, ↓Zco, ↓Lh, ↓Hd, ↓NR, ↓MX, ↓HA, ↓NW, ↓LS, ↓Ck, ↓LD, ↓Dk, ↓Tu, ↓D6, ↓MD, ↓EC, ↓Uc, ↓N4, ↓Eu, ↓D0, ↓Lw])
theorem GG (T : Tx K mg) : ZD P w K mg base CX0 1 T.Ya T.Yp ["box"] (lift K TX) := by
 refine okD T.Vf.F Gw (fun xs M Φ h => by obtain ⟨_, rfl, _⟩ := Qn h; rfl) fun cdv A outer s H E hr => ⟨_, (Zi (Zm (VI (U5 Xt (Zg (Zg (Zb 0) Zc) Zc) (Zg (Zg (Zb 0) Zc) Zc)) (YM (U5 Xt (Zg (Zg (Zb 0) Zc) Zc) (Zg (Zg (Zb 0) Zc) Zc)))))), fun xs M Φ h => ?_⟩
 replace h := Qn h
 obtain ⟨x1, rfl, h⟩ := h
 replace h := ZK h
 obtain ⟨b, rfl, h⟩ := h
 walk_at "rk"
 refine Zj (fun h1 => ?_) (fun h1 => ?_)
 ·unfold okB at h
  simpa [h1] using h
 ·unfold okB at h
  simpa [h1] using h
theorem ZaF (T : Tx K mg) : ZD P w K mg base CX0 1 T.Ro T.TR ["one", "other", "way"] (lift K RZ) := by
 refine okD T.BS.F Zb5 (fun xs M Φ h => by obtain ⟨_, _, _, rfl, _⟩ := Z3 h; rfl) fun cdv A outer s H E hr => ⟨_, (Zi (Zm (Zk (Tz rfl) rfl T.KG VE (Za Zc (Za (Zs Qa (Zg (Zg (Zb 1) Zc) (Zb 2)) (Zg (Zg (Zb 0) Zc) (Zb 2))) (Za (Zs Qa (Zg (Zg (Zb 0) Zc) (Zb 2)) (Zg (Zg (Zb 1) Zc) (Zb 2))) Zd)))))), fun xs M Φ h => ?_⟩
 replace h := Z3 h
 obtain ⟨x1, x2, x3, rfl, h⟩ := h
 replace h := ZK h
 obtain ⟨a, rfl, h⟩ := h
 replace h := ZK h
 obtain ⟨b, rfl, h⟩ := h
 replace h := ZO h
 obtain ⟨i, rfl, hi, h⟩ := h
 rcases hi with rfl | rfl
 ·walk_at "rk"
  exact h
 ·walk_at "rk"
  exact h
theorem Q9 (T : Tx K mg) : ZD P w K mg base CX0 2 T.Qm T.Qh ["one", "other"] (lift K Vx) := by
 have G_gap : ZD P w K mg base CX0 1 T.Ro T.TR ["one", "other", "way"] (lift K RZ) := ZaF T
 refine okD T.ZI.F Xx (fun xs M Φ h => by obtain ⟨_, _, rfl, _⟩ := Zx h; rfl) fun cdv A outer s H E hr => ⟨_, (Zi (Zm (Zk (Yb rfl) rfl T.KG VE (Za (Zh G_gap (hr.mono (by first | decide | omega)) rfl T.BS.m T.BS.F.kp T.BS.b Zp (Za (Zb 0) (Za (Zb 1) (Za Zc Zd)))) (Za (Zh G_gap (hr.mono (by first | decide | omega)) rfl T.BS.m T.BS.F.kp T.BS.b Zp (Za (Zb 0) (Za (Zb 1) (Za Zc Zd)))) Zd))))), fun xs M Φ h => ?_⟩
 replace h := Zx h
 obtain ⟨x1, x2, rfl, h⟩ := h
 replace h := ZK h
 obtain ⟨a, rfl, h⟩ := h
 replace h := ZK h
 obtain ⟨b, rfl, h⟩ := h
 walk_at "rk"
 exact ⟨.inl trivial, .inr trivial, h⟩
theorem X5 (T : Tx K mg) : ZD P w K mg base CX0 3 T.VX T.VM ["box", "spot"] (lift K Zdr) := by
 have G_steps_between : ZD P w K mg base CX0 2 T.Qm T.Qh ["one", "other"] (lift K Vx) := Q9 T
 refine okD T.Q0.F B2 (fun xs M Φ h => by obtain ⟨_, _, rfl, _⟩ := Zx h; rfl) fun cdv A outer s H E hr => ⟨_, (Zi (Zm (Zh G_steps_between (hr.mono (by first | decide | omega)) rfl T.ZI.m T.ZI.F.kp T.ZI.b Zp (Za (Zb 0) (Za (Zn (Za (Zb 1) (Za (Zb 1) Zd))) Zd))))), fun xs M Φ h => ?_⟩
 replace h := Zx h
 obtain ⟨x1, x2, rfl, h⟩ := h
 replace h := ZK h
 obtain ⟨a, rfl, h⟩ := h
 replace h := Ys h
 obtain ⟨u, v, rfl, h⟩ := h
 walk_at "rk"
 exact h
theorem Pj (T : Tx K mg) : ZD P w K mg base CX0 4 T.NJ T.OI ["box", "spot"] (lift K CS) := by
 have G_steps_to : ZD P w K mg base CX0 3 T.VX T.VM ["box", "spot"] (lift K Zdr) := X5 T
 refine okD T.KS.F Zdc (fun xs M Φ h => by obtain ⟨_, _, rfl, _⟩ := Zx h; rfl) fun cdv A outer s H E hr => ⟨_, (Zi (Zm (U5 (Ja hr) (Zh G_steps_to (hr.mono (by first | decide | omega)) rfl T.Q0.m T.Q0.F.kp T.Q0.b Zp (Za (Zb 0) (Za (Zb 1) Zd))) Zc))), fun xs M Φ h => ?_⟩
 replace h := Zx h
 obtain ⟨x1, x2, rfl, h⟩ := h
 replace h := ZK h
 obtain ⟨a, rfl, h⟩ := h
 replace h := Ys h
 obtain ⟨u, v, rfl, h⟩ := h
 walk_at "rk"
 rw [N7]
 exact h
theorem E7 (T : Tx K mg) : ZD P w K mg base CX0 1 T.Ui T.Uz ["one", "other"] (lift K WH) := by
 refine okD T.XO.F XX (fun xs M Φ h => by obtain ⟨_, _, rfl, _⟩ := Zx h; rfl) fun cdv A outer s H E hr => ⟨_, (Zf (Zv 2 XX.nd (Zn (Za (Zk (Yb rfl) rfl T.KG VE (Za (Zg (Zg (Zb 0) Zc) Zc) (Za (Zg (Zg (Zb 1) Zc) Zc) Zd))) (Za (Zk (Yb rfl) rfl T.KG VE (Za (Zg (Zg (Zb 0) Zc) Zc) (Za (Zg (Zg (Zb 1) Zc) Zc) Zd))) Zd))))
 (Zf (Zv 3 XX.nd (Zn (Za (Zk (Ve rfl) rfl T.Yj JE (Za (Zg (Zg (Zb 0) Zc) Zc) (Za (Zg (Zg (Zb 1) Zc) Zc) Zd))) (Za (Zk (Ve rfl) rfl T.Yj JE (Za (Zg (Zg (Zb 0) Zc) Zc) (Za (Zg (Zg (Zb 1) Zc) Zc) Zd))) Zd))))
 (Zi (Zm (Zn (Za (Zb 2) (Za (Zb 3) Zd))))))), fun xs M Φ h => ?_⟩
 replace h := Zx h
 obtain ⟨x1, x2, rfl, h⟩ := h
 replace h := ZK h
 obtain ⟨a, rfl, h⟩ := h
 replace h := ZK h
 obtain ⟨b, rfl, h⟩ := h
 walk_at "hd"
 walk_at "rk"
 walk_at "hd"
 walk_at "rk"
 subst_vars
 walk_at "rk"
 exact h
theorem LH (T : Tx K mg) : ZD P w K mg base CX0 1 T.Uk T.Uj ["spot", "r"] (lift K Ul) := by
 refine okD T.XC.F Ll (fun xs M Φ h => by obtain ⟨_, _, rfl, _⟩ := Zx h; rfl) fun cdv A outer s H E hr => ⟨_, (Zi (Zm (Zn (Za (Zn (Za (Zs Qa (Zg (Zb 0) Zc) (Zb 1)) (Za (Zs Qa (Zg (Zb 0) Zc) (Zb 1)) Zd))) (Za (Zn (Za (Zs ZE (Zg (Zb 0) Zc) (Zb 1)) (Za (Zs ZE (Zg (Zb 0) Zc) (Zb 1)) Zd))) Zd))))), fun xs M Φ h => ?_⟩
 replace h := Zx h
 obtain ⟨x1, x2, rfl, h⟩ := h
 replace h := Ys h
 obtain ⟨u, v, rfl, h⟩ := h
 replace h := ZO h
 obtain ⟨r, rfl, h⟩ := h
 walk_at "rk"
 exact h
theorem Ef (T : Tx K mg) : ZD P w K mg base CX0 3 T.KI T.KO ["one", "other"] (lift K SO) := by
 have G_common : ZD P w K mg base CX0 1 T.Ui T.Uz ["one", "other"] (lift K WH) := E7 T
 have G_steps_between : ZD P w K mg base CX0 2 T.Qm T.Qh ["one", "other"] (lift K Vx) := Q9 T
 have G_has_spots : ZD P w K mg base CX0 1 T.Ya T.Yp ["box"] (lift K TX) := GG T
 refine okD T.YN.F Js (fun xs M Φ h => by obtain ⟨_, _, rfl, _⟩ := Zx h; rfl) fun cdv A outer s H E hr => ⟨_, (Zf (ZV (Zz WI (Zh G_steps_between (hr.mono (by first | decide | omega)) rfl T.ZI.m T.ZI.F.kp T.ZI.b Zp (Za (Zb 0) (Za (Zb 1) Zd))) Zc) (Zi (Zm (QP (Za (Zb 0) Zd)))) Zw)
 (Zf (Zv 2 Js.nd (Zh G_common (hr.mono (by first | decide | omega)) rfl T.XO.m T.XO.F.kp T.XO.b Zp (Za (Zb 0) (Za (Zb 1) Zd))))
 (Zf (Zv 3 Js.nd (Zn (Za (Zg (Zb 0) Zc) (Za (Zn (Za (Zs Qa (Zg (Zg (Zb 2) Zc) Zc) Zc) (Za (Zg (Zg (Zb 0) Zc) Zc) Zd))) Zd))))
 (Zf (Zv 4 Js.nd (Zn (Za (Zn (Za (Zs ZE (Zg (Zg (Zb 2) Zc) Zc) Zc) (Za (Zg (Zg (Zb 0) Zc) Zc) Zd))) (Za (Zg (Zb 0) Zc) Zd))))
 (Zf (Zv 5 Js.nd (Zn (Za (Zn (Za (Zg (Zg (Zb 2) Zc) Zc) (Za (Zg (Zg (Zb 0) Zc) Zc) Zd))) (Za (Zn (Za (Zg (Zg (Zb 2) Zc) Zc) (Za (Zs Qa (Zg (Zg (Zb 2) Zc) Zc) Zc) Zd))) Zd))))
 (Zf (Zv 6 Js.nd (Zn (Za (Zn (Za (Zg (Zg (Zb 2) Zc) Zc) (Za (Zs ZE (Zg (Zg (Zb 2) Zc) Zc) Zc) Zd))) (Za (Zn (Za (Zg (Zg (Zb 2) Zc) Zc) (Za (Zg (Zg (Zb 0) Zc) Zc) Zd))) Zd))))
 (Zi (Zm (QV true (ZH (sc := Ze JB) (XN := ["one", "other", "middle", "left", "right", "below", "above"]) (N := ["piece"]) (ix := [none]) rfl rfl (by decide +kernel)) (JG (QA (Za (Zb 3) (Za (Zb 4) (Za (Zb 5) (Za (Zb 6) Zd)))))) (fun C ex s H => (Zl 0 (show List.Nodup (["piece"] : List Str) by decide +kernel))) (fun C ex s H => (B6 (Jc (Zh G_has_spots (hr.mono (by first | decide | omega)) rfl T.Vf.m T.Vf.F.kp T.Vf.b Zp (Za (Zb 0) Zd))))) (fun C ex s H => (Zb 0)) rfl))))))))), fun xs M Φ h => ?_⟩
 replace h := Zx h
 obtain ⟨x1, x2, rfl, h⟩ := h
 replace h := ZK h
 obtain ⟨a, rfl, h⟩ := h
 replace h := ZK h
 obtain ⟨b, rfl, h⟩ := h
 walk_at "hd"
 walk_at "rk"
 refine Zj (fun hk => ?_) (fun hk => ?_)
 ·intro p hp
  have h' := h p hp
  rw [show KW a b = [a] from if_pos hk] at h'
  exact h'
 ·have ec : KW a b = (EO a b).filter okB := if_neg hk
  walk_at "hd"
  walk_at "rk"
  walk_at "hd"
  walk_at "rk"
  walk_at "hd"
  walk_at "rk"
  walk_at "hd"
  walk_at "rk"
  walk_at "hd"
  walk_at "rk"
  subst_vars
  walk_at "rk"
  refine ⟨fun i acc M' => acc = (((EO a b).take i).filter okB).map bD ∧ M' = M, ⟨rfl, rfl⟩, ?_, ?_⟩
  ·rintro i d acc M' hd ⟨rfl, rfl⟩
   have hd' : ((EO a b).map bD)[i]? = some d := hd
   obtain ⟨q, eq, rfl⟩ := Z1 hd'
   walk_at "rk"
   rw [X6 okB eq, List.map_append]
   cases okB q with
   | true => rfl
   | false => simp
  ·rintro acc M' ⟨rfl, rfl⟩
   rw [ec] at h
   exact h
theorem Vy (T : Tx K mg) : ZD P w K mg base CX0 4 T.JA T.Jt ["box", "others"] (lift K UT) := by
 have G_cut_out : ZD P w K mg base CX0 3 T.KI T.KO ["one", "other"] (lift K SO) := Ef T
 refine okD T.ZZ.F QG (fun xs M Φ h => by obtain ⟨_, _, rfl, _⟩ := Zx h; rfl) fun cdv A outer s H E hr => ⟨_, (Zf (Zv 2 QG.nd (QA (Za (Zb 0) Zd)))
 (Zf (BP (Zb 1) (Zl 3 QG.nd) (Zf (Zv 4 QG.nd (QP Zd))
 (Zf (BY (Zb 2) (Zl 5 QG.nd) (Zi (Va (GX (Zb 4) (Zh G_cut_out (hr.mono (by first | decide | omega)) rfl T.YN.m T.YN.F.kp T.YN.b Zp (Za (Zb 5) (Za (Zb 3) Zd)))))) PassesOwn.never rfl)
 (Zi (Zv 2 QG.nd (DB (Zb 4)))))) PassesOwn.never rfl)
 (Zi (Zm (Zb 2))))), fun xs M Φ h => ?_⟩
 replace h := Zx h
 obtain ⟨x1, x2, rfl, h⟩ := h
 replace h := ZK h
 obtain ⟨a, rfl, h⟩ := h
 replace h := ZW h
 obtain ⟨bs, rfl, hl, h⟩ := h
 walk_at "hd"
 walk_at "rk"
 walk_at "hd"
 walk_at "rk"
 refine ⟨fun i Δ M' => ∃ k3 k4 k5, Δ = [some (.dat (bD a)), some (.dat (.tuple (bs.map bD))), some (.dat (.list ((QS a (bs.take i)).map bD))), k3, k4, k5] ∧ M' = M, ⟨none, none, none, rfl, rfl⟩, ?_, ?_⟩
 ·rintro i d Δ M' hd ⟨k3, k4, k5, rfl, rfl⟩
  obtain ⟨b, eb, rfl⟩ := Z1 hd
  have len := X1 a (bs.take i) (by rw [List.length_take]; omega)
  walk_at "rk"
  intro q hq
  refine ⟨fun j Δ M2 => ∃ k5, Δ = [some (.dat (bD a)), some (.dat (.tuple (bs.map bD))), some (.dat (.list ((QS a (bs.take i)).map bD))), some (.dat (bD b)), some (.own q), k5] ∧ M2 = Z8 M' q (.lst ((((QS a (bs.take i)).take j).flatMap fun p => KW p b).map bD)), ⟨k5, rfl, rfl⟩, ?_, ?_⟩
  ·rintro j d Δ M2 hd2 ⟨k5, rfl, rfl⟩
   obtain ⟨p, ep, rfl⟩ := Z1 hd2
   walk_at "rk"
   intro c hc
   have hne := fresh_ne hc
   simp only [Qy (Ne.symm hne)]
   walk_at "rk"
   refine ⟨hne, ?_, _, rfl, ?_⟩
   ·have h1 := XJ (fun p => KW p b) 4 ((QS a (bs.take i)).take j) fun p _ => UO p b
    have h2 := UO p b
    rw [List.length_take] at h1
    rw [List.length_map, List.length_map]
    omega
   ·rw [LJ hc, ← List.map_append, LR (fun p => KW p b) ep]
  ·rintro Δ M2 ⟨k5, rfl, rfl⟩
   rw [List.length_map, List.take_length]
   walk_at "rk"
   exact ⟨_, _, _, by rw [EB eb], XY hq⟩
 ·rintro Δ M' ⟨k3, k4, k5, rfl, rfl⟩
  rw [List.length_map, List.take_length]
  subst_vars
  walk_at "rk"
  exact h
theorem K9 (T : Tx K mg) : ZD P w K mg base CX0 5 T.YO T.YQ ["shape", "spot"] (lift K CT) := by
 have G_has : ZD P w K mg base CX0 4 T.NJ T.OI ["box", "spot"] (lift K CS) := Pj T
 refine okD T.Jy.F Ei (fun xs M Φ h => by obtain ⟨_, _, rfl, _⟩ := Zx h; rfl) fun cdv A outer s H E hr => ⟨_, (Zi (Zm (Zk (ZaA rfl) rfl T.Zei Zbt (Za (QV false (ZH (sc := Ze Ju) (XN := ["shape", "spot"]) (N := ["box", "spot"]) (ix := [none, some 1]) rfl rfl (by decide +kernel)) (Kb (Zb 0)) (fun C ex s H => (Zl 0 (show List.Nodup (["box", "spot"] : List Str) by decide +kernel))) (fun C ex s H => Z0) (fun C ex s H => (Zh G_has (hr.mono (by first | decide | omega)) rfl T.KS.m T.KS.F.kp T.KS.b Zp (Za (Zb 0) (Za (Zb 1) Zd)))) rfl) Zd)))), fun xs M Φ h => ?_⟩
 replace h := Zx h
 obtain ⟨x1, x2, rfl, h⟩ := h
 replace h := ZW h
 obtain ⟨bs, rfl, h⟩ := h
 replace h := Ys h
 obtain ⟨u, v, rfl, hl, h⟩ := h
 walk_at "rk"
 refine ⟨by rw [List.length_map]; omega, fun i acc M' => acc = ((bs.take i).map fun b => hasB b u v).map PyData.bool ∧ M' = M, ⟨rfl, rfl⟩, ?_, ?_⟩
 ·rintro i d acc M' hd ⟨rfl, rfl⟩
  obtain ⟨b, eb, rfl⟩ := Z1 hd
  walk_at "rk"
  rw [← take_snoc _ eb, List.map_append]
  rfl
 ·rintro acc M' ⟨rfl, rfl⟩
  refine ⟨_, rfl, ?_⟩
  rw [List.length_map, List.take_length, List.any_map]
  exact h
theorem Na (T : Tx K mg) : ZD P w K mg base CX0 1 T.Cg T.Bb ["shape"] (lift K BJ) := by
 refine okD T.Uu.F UB (fun xs M Φ h => by obtain ⟨_, rfl, _⟩ := Qn h; rfl) fun cdv A outer s H E hr => ⟨_, (Zf (Zv 1 UB.nd (Zn (Za (Zs Qa (Zk (Ke rfl) rfl T.Yj JE (Za (QV false (ZH (sc := Ze JV) (XN := ["shape", "low", "high"]) (N := ["box"]) (ix := [none]) rfl rfl (by decide +kernel)) (Kb (Zb 0)) (fun C ex s H => (Zl 0 (show List.Nodup (["box"] : List Str) by decide +kernel))) (fun C ex s H => Z0) (fun C ex s H => (Zg (Zg (Zb 0) Zc) Zc)) rfl) Zd)) Zc) (Za (Zs Qa (Zk (Ke rfl) rfl T.Yj JE (Za (QV false (ZH (sc := Ze JV) (XN := ["shape", "low", "high"]) (N := ["box"]) (ix := [none]) rfl rfl (by decide +kernel)) (Kb (Zb 0)) (fun C ex s H => (Zl 0 (show List.Nodup (["box"] : List Str) by decide +kernel))) (fun C ex s H => Z0) (fun C ex s H => (Zg (Zg (Zb 0) Zc) Zc)) rfl) Zd)) Zc) Zd))))
 (Zf (Zv 2 UB.nd (Zn (Za (Zs ZE (Zk (Be rfl) rfl T.KG VE (Za (QV false (ZH (sc := Ze JV) (XN := ["shape", "low", "high"]) (N := ["box"]) (ix := [none]) rfl rfl (by decide +kernel)) (Kb (Zb 0)) (fun C ex s H => (Zl 0 (show List.Nodup (["box"] : List Str) by decide +kernel))) (fun C ex s H => Z0) (fun C ex s H => (Zg (Zg (Zb 0) Zc) Zc)) rfl) Zd)) Zc) (Za (Zs ZE (Zk (Be rfl) rfl T.KG VE (Za (QV false (ZH (sc := Ze JV) (XN := ["shape", "low", "high"]) (N := ["box"]) (ix := [none]) rfl rfl (by decide +kernel)) (Kb (Zb 0)) (fun C ex s H => (Zl 0 (show List.Nodup (["box"] : List Str) by decide +kernel))) (fun C ex s H => Z0) (fun C ex s H => (Zg (Zg (Zb 0) Zc) Zc)) rfl) Zd)) Zc) Zd))))
 (Zi (Zm (Zn (Za (Zb 1) (Za (Zb 2) Zd))))))), fun xs M Φ h => ?_⟩
 replace h := Qn h
 obtain ⟨x1, rfl, h⟩ := h
 replace h := ZW h
 obtain ⟨bs, rfl, ⟨h1, h2⟩, h⟩ := h
 walk_at "hd"
 walk_at "rk"
 refine ⟨by rw [List.length_map]; omega, fun i acc M' => acc = ((bs.take i).map B4.x).map PyData.int ∧ M' = M, ⟨rfl, rfl⟩, ?_, ?_⟩
 ·rintro i d acc M' hd ⟨rfl, rfl⟩
  obtain ⟨b, eb, rfl⟩ := Z1 hd
  walk_at "rk"
  rw [← take_snoc _ eb, List.map_append]
  rfl
 ·rintro acc M1 ⟨rfl, rfl⟩
  rw [List.length_map, List.take_length]
  refine ⟨_, .inl rfl, by rw [List.length_map]; omega, fun mx hmx nx => ⟨by omega, fun i acc M' => acc = ((bs.take i).map B4.y).map PyData.int ∧ M' = M1, ⟨rfl, rfl⟩, ?_, ?_⟩⟩
  ·rintro i d acc M' hd ⟨rfl, rfl⟩
   obtain ⟨b, eb, rfl⟩ := Z1 hd
   walk_at "rk"
   rw [← take_snoc _ eb, List.map_append]
   rfl
  ·rintro acc M2 ⟨rfl, rfl⟩
   rw [List.take_length]
   refine ⟨_, .inl rfl, by rw [List.length_map]; omega, fun my hmy ny => ?_⟩
   walk_at "hd"
   walk_at "rk"
   refine ⟨by rw [List.length_map]; omega, fun i acc M' => acc = ((bs.take i).map B4.X).map PyData.int ∧ M' = M2, ⟨rfl, rfl⟩, ?_, ?_⟩
   ·rintro i d acc M' hd ⟨rfl, rfl⟩
    obtain ⟨b, eb, rfl⟩ := Z1 hd
    walk_at "rk"
    rw [← take_snoc _ eb, List.map_append]
    rfl
   ·rintro acc M3 ⟨rfl, rfl⟩
    rw [List.length_map, List.take_length]
    refine ⟨_, .inl rfl, by rw [List.length_map]; omega, fun mX hmX nX => ⟨by omega, fun i acc M' => acc = ((bs.take i).map B4.Y).map PyData.int ∧ M' = M3, ⟨rfl, rfl⟩, ?_, ?_⟩⟩
    ·rintro i d acc M' hd ⟨rfl, rfl⟩
     obtain ⟨b, eb, rfl⟩ := Z1 hd
     walk_at "rk"
     rw [← take_snoc _ eb, List.map_append]
     rfl
    ·rintro acc M4 ⟨rfl, rfl⟩
     rw [List.take_length]
     refine ⟨_, .inl rfl, by rw [List.length_map]; omega, fun mY hmY nY => ?_⟩
     subst_vars
     walk_at "rk"
     refine h ⟨mx - 1, my - 1, mX + 1, mY + 1⟩ fun b hb => ?_
     have q1 := nx b.x (List.mem_map.mpr ⟨b, hb, rfl⟩)
     have q2 := ny b.y (List.mem_map.mpr ⟨b, hb, rfl⟩)
     have q3 := nX b.X (List.mem_map.mpr ⟨b, hb, rfl⟩)
     have q4 := nY b.Y (List.mem_map.mpr ⟨b, hb, rfl⟩)
     dsimp only
     omega
theorem Yy (T : Tx K mg) : ZD P w K mg base CX0 4 T.JM T.JL ["pieces", "spot"] (lift K CF) := by
 have G_steps_to : ZD P w K mg base CX0 3 T.VX T.VM ["box", "spot"] (lift K Zdr) := X5 T
 refine okD T.Qi.F WN (fun xs M Φ h => by obtain ⟨_, _, rfl, _⟩ := Zx h; rfl) fun cdv A outer s H E hr => ⟨_, (Zi (Zm (Zk (Ke rfl) rfl T.Yj JE (Za (QV false (ZH (sc := Ze Qj) (XN := ["pieces", "spot"]) (N := ["piece", "spot"]) (ix := [none, some 1]) rfl rfl (by decide +kernel)) (Zem (Zb 0)) (fun C ex s H => (Zl 0 (show List.Nodup (["piece", "spot"] : List Str) by decide +kernel))) (fun C ex s H => Z0) (fun C ex s H => (Zh G_steps_to (hr.mono (by first | decide | omega)) rfl T.Q0.m T.Q0.F.kp T.Q0.b Zp (Za (Zb 0) (Za (Zb 1) Zd)))) rfl) Zd)))), fun xs M Φ h => ?_⟩
 replace h := Zx h
 obtain ⟨x1, x2, rfl, h⟩ := h
 replace h := S9 h
 obtain ⟨ps, hx, h⟩ := h
 replace h := Ys h
 obtain ⟨u, v, rfl, ⟨h1, h2⟩, h⟩ := h
 have e : ∀ P : List PyData → Prop, Zad x1 P = P (ps.map bD) := fun P => by rcases hx with rfl | rfl <;> exact propext Iff.rfl
 walk_at "rk"
 rw [e]
 refine ⟨by rw [List.length_map]; omega, fun i acc M' => acc = ((ps.take i).map fun p => ZQ p u v).map PyData.int ∧ M' = M, ⟨rfl, rfl⟩, ?_, ?_⟩
 ·rintro i d acc M' hd ⟨rfl, rfl⟩
  obtain ⟨b, eb, rfl⟩ := Z1 hd
  walk_at "rk"
  rw [← take_snoc _ eb, List.map_append]
  rfl
 ·rintro acc M1 ⟨rfl, rfl⟩
  rw [List.length_map, List.take_length]
  have hl : 0 < ps.length := List.length_pos_iff.mpr h1
  refine ⟨_, .inl rfl, by rw [List.length_map]; exact hl, fun m hm hn => h m ?_ fun p hp => hn _ (List.mem_map.mpr ⟨p, hp, rfl⟩)⟩
  obtain ⟨p, mp, e⟩ := List.mem_map.mp hm
  exact ⟨p, mp, e⟩
theorem WU (T : Tx K mg) : ZD P w K mg base CX0 6 T.VG T.Vs ["shape", "spot"] (lift K Bt) := by
 have G_lies_in : ZD P w K mg base CX0 5 T.YO T.YQ ["shape", "spot"] (lift K CT) := K9 T
 have G_left_over : ZD P w K mg base CX0 4 T.JA T.Jt ["box", "others"] (lift K UT) := Vy T
 have G_frame : ZD P w K mg base CX0 1 T.Cg T.Bb ["shape"] (lift K BJ) := Na T
 refine okD T.JQ.F Uh (fun xs M Φ h => by obtain ⟨_, _, rfl, _⟩ := Zx h; rfl) fun cdv A outer s H E hr => ⟨_, (Zf (ZV (Jc (Zh G_lies_in (hr.mono (by first | decide | omega)) rfl T.Jy.m T.Jy.F.kp T.Jy.b Zp (Za (Zb 0) (Za (Zb 1) Zd)))) (Zi (Zm (Zh G_left_over (hr.mono (by first | decide | omega)) rfl T.ZZ.m T.ZZ.F.kp T.ZZ.b Zp (Za (Zh G_frame (hr.mono (by first | decide | omega)) rfl T.Uu.m T.Uu.F.kp T.Uu.b Zp (Za (Zb 0) Zd)) (Za (Zb 0) Zd))))) Zw)
 (Zi (Zm (QW LM rfl T.Zc3 SV (Za (Zb 0) Zd))))), fun xs M Φ h => ?_⟩
 replace h := Zx h
 obtain ⟨x1, x2, rfl, h⟩ := h
 replace h := ZW h
 obtain ⟨bs, rfl, h⟩ := h
 replace h := Ys h
 obtain ⟨u, v, rfl, ⟨h1, h2, hb⟩, h⟩ := h
 walk_at "rk"
 refine ⟨h2, PY (fun q => ⟨⟨h1, h2⟩, fun fr hf => ?_⟩) fun q => ?_⟩
 ·exact ⟨h2, h _ (U0 hb hf q) (fun m z => Ry hb hf q z) (X1 _ _ h2)⟩
 ·exact h bs (Y8 hb (fun z => by rw [z] at h1; exact absurd h1 (by decide)) q) (fun m _ => OP q) (by omega)
theorem OT (T : Tx K mg) : ZD P w K mg base CX0 7 T.BK T.BA ["shape", "spot"] (lift K B9) := by
 have G_steps_away : ZD P w K mg base CX0 4 T.JM T.JL ["pieces", "spot"] (lift K CF) := Yy T
 have G_other_side : ZD P w K mg base CX0 6 T.VG T.Vs ["shape", "spot"] (lift K Bt) := WU T
 have G_lies_in : ZD P w K mg base CX0 5 T.YO T.YQ ["shape", "spot"] (lift K CT) := K9 T
 refine okD T.WS.F Dc (fun xs M Φ h => by obtain ⟨_, _, rfl, _⟩ := Zx h; rfl) fun cdv A outer s H E hr => ⟨_, (Zf (Zv 2 Dc.nd (Zh G_steps_away (hr.mono (by first | decide | omega)) rfl T.Qi.m T.Qi.F.kp T.Qi.b Zp (Za (Zh G_other_side (hr.mono (by first | decide | omega)) rfl T.JQ.m T.JQ.F.kp T.JQ.b Zp (Za (Zb 0) (Za (Zb 1) Zd))) (Za (Zb 1) Zd))))
 (Zi (Zm (HS (Jc (Zh G_lies_in (hr.mono (by first | decide | omega)) rfl T.Jy.m T.Jy.F.kp T.Jy.b Zp (Za (Zb 0) (Za (Zb 1) Zd)))) (Zb 2) (CN (Zb 2)))))), fun xs M Φ h => ?_⟩
 replace h := Zx h
 obtain ⟨x1, x2, rfl, h⟩ := h
 replace h := ZW h
 obtain ⟨bs, rfl, h⟩ := h
 replace h := Ys h
 obtain ⟨u, v, rfl, hs, h⟩ := h
 walk_at "rk"
 refine ⟨hs, fun ps hp hF hl => ⟨⟨hp.ne, hl⟩, fun m m1 m2 => ?_⟩⟩
 have k := hp.depth m1 m2
 refine ⟨hs.2.1, PY (fun q => ?_) fun q => ?_⟩
 ·rw [q, if_pos rfl] at k
  exact h _ k
 ·rw [q, if_neg Bool.false_ne_true] at k
  exact h _ k
theorem TV (T : Tx K mg) : ZD P w K mg base CX0 5 T.E9 T.L6 ["shape", "wobble", "spot"] (lift K Fe) := by
 have G_left_over : ZD P w K mg base CX0 4 T.JA T.Jt ["box", "others"] (lift K UT) := Vy T
 have G_steps_away : ZD P w K mg base CX0 4 T.JM T.JL ["pieces", "spot"] (lift K CF) := Yy T
 have G_square : ZD P w K mg base CX0 1 T.Uk T.Uj ["spot", "r"] (lift K Ul) := LH T
 refine okD T.C9.F RD (fun xs M Φ h => by obtain ⟨_, _, _, rfl, _⟩ := Z3 h; rfl) fun cdv A outer s H E hr => ⟨_, (Zf (ZV (Zz (Ja hr) (Zh G_left_over (hr.mono (by first | decide | omega)) rfl T.ZZ.m T.ZZ.F.kp T.ZZ.b Zp (Za (Zh G_square (hr.mono (by first | decide | omega)) rfl T.XC.m T.XC.F.kp T.XC.b Zp (Za (Zb 2) (Za (Zb 1) Zd))) (Za (Zb 0) Zd))) (QA Zd)) (Zi (Zm QM)) Zw)
 (Zf (ZV (Zz WI (Zh G_steps_away (hr.mono (by first | decide | omega)) rfl T.Qi.m T.Qi.F.kp T.Qi.b Zp (Za (Zb 0) (Za (Zb 2) Zd))) (Zb 1)) (Zi (Zm QM)) Zw)
 (Zi (Zm QM)))), fun xs M Φ h => ?_⟩
 replace h := Z3 h
 obtain ⟨x1, x2, x3, rfl, h⟩ := h
 replace h := ZW h
 obtain ⟨bs, rfl, h⟩ := h
 replace h := ZO h
 obtain ⟨wb, rfl, h⟩ := h
 replace h := Ys h
 obtain ⟨u, v, rfl, ⟨hs, hw⟩, h⟩ := h
 have n1 : bs ≠ [] := fun z => by have := hs.1; rw [z] at this; exact absurd this (by decide)
 obtain ⟨d, hd⟩ := ZbU hs.2.2 n1 u v
 have h := h d hd
 unfold Yh at h
 walk_at "hd"
 walk_at "rk"
 refine ⟨hs.2.1, Td _ ?_⟩
 refine Zj (fun q => ?_) fun q => ?_
 ·rw [if_pos ((Lk hs.2.2 hw hd).mp q)] at h
  exact h
 ·rw [if_neg (fun z => q ((Lk hs.2.2 hw hd).mpr z))] at h
  subst_vars
  walk_at "rk"
  refine ⟨⟨n1, by have := hs.2.1; omega⟩, fun m m1 m2 => ?_⟩
  have k := Nu hs.2.2 n1 hw hd m1 m2
  refine Zj (fun z => ?_) fun z => ?_
  ·rw [if_pos (k.mp z)] at h
   exact h
  ·rw [if_neg (fun y => z (k.mpr y))] at h
   exact h
theorem Kx (T : Tx K mg) : ZD P w K mg base CX0 1 T.VT T.VP ["thing"] (lift K spW) := by
 refine okD T.Qb.F BW (fun xs M Φ h => by obtain ⟨_, rfl, _⟩ := Qn h; rfl) fun cdv A outer s H E hr => ⟨_, (Zi (Zm (VI (Zk (K2 (HU _)) rfl T.QL Qt (Za (Zb 0) (Za (Eh rfl T.Za6 PQ) Zd))) (YM (Pm (Zk (K2 (Dq _)) rfl T.QL Qt (Za (Zb 0) (Za (Eh rfl T.PF HP) Zd)))))))), fun xs M Φ h => ?_⟩
 replace h := Qn h
 obtain ⟨x1, rfl, h⟩ := h
 replace h := QY h
 obtain ⟨d, rfl, h⟩ := h
 walk_at "rk"
 cases d <;> simpa [ZP, tyN, Z7] using h
theorem Wv (T : Tx K mg) : ZD P w K mg base CX0 5 T.YJ T.YG ["box", "other"] (lift K XG) := by
 have G_has : ZD P w K mg base CX0 4 T.NJ T.OI ["box", "spot"] (lift K CS) := Pj T
 refine okD T.JF.F Es (fun xs M Φ h => by obtain ⟨_, _, rfl, _⟩ := Zx h; rfl) fun cdv A outer s H E hr => ⟨_, (Zi (Zm (VI (Zh G_has (hr.mono (by first | decide | omega)) rfl T.KS.m T.KS.F.kp T.KS.b Zp (Za (Zb 0) (Za (Zg (Zb 1) Zc) Zd))) (YM (Zh G_has (hr.mono (by first | decide | omega)) rfl T.KS.m T.KS.F.kp T.KS.b Zp (Za (Zb 0) (Za (Zg (Zb 1) Zc) Zd))))))), fun xs M Φ h => ?_⟩
 replace h := Zx h
 obtain ⟨x1, x2, rfl, h⟩ := h
 replace h := ZK h
 obtain ⟨a, rfl, h⟩ := h
 replace h := ZK h
 obtain ⟨b, rfl, h⟩ := h
 walk_at "rk"
 unfold allB at h
 cases q : hasB a b.x b.y with
 | true => rw [q] at h; simpa using h
 | false => rw [q] at h; simpa using h
theorem CV (T : Tx K mg) : ZD P w K mg base CX0 1 T.WQ T.UD ["box", "way", "at"] (lift K Zdl) := by
 refine okD T.Ye.F C4 (fun xs M Φ h => by obtain ⟨_, _, _, rfl, _⟩ := Z3 h; rfl) fun cdv A outer s H E hr => ⟨_, (Zf (Zv 3 C4.nd (HS (Zz (Ja hr) (Zb 1) Zc) (Zn (Za (Zb 2) (Za (Zg (Zg (Zb 0) Zc) Zc) Zd))) (Zn (Za (Zg (Zg (Zb 0) Zc) Zc) (Za (Zb 2) Zd)))))
 (Zi (Zm (Zn (Za (Zg (Zb 0) Zc) (Za (Zb 3) Zd)))))), fun xs M Φ h => ?_⟩
 replace h := Z3 h
 obtain ⟨x1, x2, x3, rfl, h⟩ := h
 replace h := ZK h
 obtain ⟨b, rfl, h⟩ := h
 replace h := ZO h
 obtain ⟨i, rfl, h⟩ := h
 replace h := ZO h
 obtain ⟨a, rfl, h⟩ := h
 unfold upB at h
 walk_at "hd"
 walk_at "rk"
 refine Zj (fun z => ?_) fun z => ?_
 ·rw [if_pos z] at h
  subst_vars
  walk_at "rk"
  exact h
 ·rw [if_neg z] at h
  subst_vars
  walk_at "rk"
  exact h
theorem V7 (T : Tx K mg) : ZD P w K mg base CX0 1 T.Ji T.Jh ["box", "way", "at"] (lift K Zdp) := by
 refine okD T.Z5.F V4 (fun xs M Φ h => by obtain ⟨_, _, _, rfl, _⟩ := Z3 h; rfl) fun cdv A outer s H E hr => ⟨_, (Zf (Zv 3 V4.nd (HS (Zz (Ja hr) (Zb 1) Zc) (Zn (Za (Zb 2) (Za (Zg (Zg (Zb 0) Zc) Zc) Zd))) (Zn (Za (Zg (Zg (Zb 0) Zc) Zc) (Za (Zb 2) Zd)))))
 (Zi (Zm (Zn (Za (Zb 3) (Za (Zg (Zb 0) Zc) Zd)))))), fun xs M Φ h => ?_⟩
 replace h := Z3 h
 obtain ⟨x1, x2, x3, rfl, h⟩ := h
 replace h := ZK h
 obtain ⟨b, rfl, h⟩ := h
 replace h := ZO h
 obtain ⟨i, rfl, h⟩ := h
 replace h := ZO h
 obtain ⟨a, rfl, h⟩ := h
 unfold owB at h
 walk_at "hd"
 walk_at "rk"
 refine Zj (fun z => ?_) fun z => ?_
 ·rw [if_pos z] at h
  subst_vars
  walk_at "rk"
  exact h
 ·rw [if_neg z] at h
  subst_vars
  walk_at "rk"
  exact h
theorem Ka (T : Tx K mg) : ZD P w K mg base CX0 2 T.JZ T.JY ["shape", "k"] (lift K S2) := by
 have G_is_whole : ZD P w K mg base CX0 1 T.VT T.VP ["thing"] (lift K spW) := Kx T
 refine okD T.Q5.F KA (fun xs M Φ h => by obtain ⟨_, _, rfl, _⟩ := Zx h; rfl) fun cdv A outer s H E hr => ⟨_, (Zi (Zm (VI (Zh G_is_whole (hr.mono (by first | decide | omega)) rfl T.Qb.m T.Qb.F.kp T.Qb.b Zp (Za (Zb 1) Zd)) (YM (W6 Xt Xy Zc (Zb 1) (Zk Qw rfl T.JH Qx (Za (Zb 0) Zd))))))), fun xs M Φ h => ?_⟩
 replace h := Zx h
 obtain ⟨x1, x2, rfl, h⟩ := h
 replace h := ZW h
 obtain ⟨bs, rfl, h⟩ := h
 replace h := QY h
 obtain ⟨k, rfl, h⟩ := h
 walk_at "rk"
 cases k with
 | int k =>
  unfold Zab DJ at h
  unfold Z7
  walk_at "rk"
  rw [List.length_map]
  refine Zj (fun z => ?_) fun z => ?_
  ·simpa [z] using h
  ·simpa [z] using h
 | _ => simpa [Z7, Zab] using h
theorem S5 (T : Tx K mg) : ZD P w K mg base CX0 2 T.Ln T.Fq ["box", "way", "at"] (lift K Lo) := by
 have G_is_whole : ZD P w K mg base CX0 1 T.VT T.VP ["thing"] (lift K spW) := Kx T
 refine okD T.CZ.F Sk (fun xs M Φ h => by obtain ⟨_, _, _, rfl, _⟩ := Z3 h; rfl) fun cdv A outer s H E hr => ⟨_, (Zi (Zm (VI (Zh G_is_whole (hr.mono (by first | decide | omega)) rfl T.Qb.m T.Qb.F.kp T.Qb.b Zp (Za (Zb 1) Zd)) (VI (W6 Xt Xt Zc (Zb 1) Zc) (VI (Zh G_is_whole (hr.mono (by first | decide | omega)) rfl T.Qb.m T.Qb.F.kp T.Qb.b Zp (Za (Zb 2) Zd)) (YM (W6 Xt Xy (Zg (Zg (Zb 0) Zc) (Zb 1)) (Zb 2) (Zg (Zg (Zb 0) Zc) (Zb 1))))))))), fun xs M Φ h => ?_⟩
 replace h := Z3 h
 obtain ⟨x1, x2, x3, rfl, h⟩ := h
 replace h := ZK h
 obtain ⟨b, rfl, h⟩ := h
 replace h := QY h
 obtain ⟨i, rfl, h⟩ := h
 replace h := QY h
 obtain ⟨a, rfl, h⟩ := h
 walk_at "rk"
 cases i with
 | int i =>
  unfold Z7
  walk_at "rk"
  have no : (¬ 0 ≤ i ∨ ¬ i ≤ 1) → YB b (.int i) a = false := fun z => by
   cases a with
   | int a =>
    show YR b i a = false
    rw [Bool.eq_false_iff]
    intro y
    have := (Qr.mp y).1
    omega
   | _ => rfl
  refine Zj (fun z0 => ?_) fun z0 => ?_
  ·refine Zj (fun z1 => ?_) fun z1 => ?_
   ·cases a with
    | int a =>
     walk_at "rk"
     unfold YB YR at h
     have two : i = 0 ∨ i = 1 := by omega
     rcases two with rfl | rfl
     ·walk_at "rk"
      unfold loB hiB at h
      refine Zj (fun z => ?_) fun z => ?_
      ·simpa [z] using h
      ·simpa [z] using h
     ·walk_at "rk"
      unfold loB hiB at h
      refine Zj (fun z => ?_) fun z => ?_
      ·simpa [z] using h
      ·simpa [z] using h
    | _ => simpa [YB] using h
   ·rw [no (.inr z1)] at h
    walk_at "rk"
    exact h
  ·rw [no (.inl z0)] at h
   exact h
 | _ => simpa [Z7, YB] using h
theorem K0 (T : Tx K mg) (n : Nat) : ZD P w K mg base CX0 (5 + n) T.QU T.QO ["shape", "box", "thing"] (lift K (Y1 n)) := by
 refine Nat.rec (motive := fun n => ZD P w K mg base CX0 (5 + n) T.QU T.QO ["shape", "box", "thing"] (lift K (Y1 n))) ?_ (fun n G_holds_cover => ?_) n
 ·exact U7 GD
 show ZD P w K mg base CX0 (5 + n + 1) T.QU T.QO ["shape", "box", "thing"] (lift K (Y1 (n + 1)))
 have G_cuts : ZD P w K mg base CX0 2 T.Ln T.Fq ["box", "way", "at"] (lift K Lo) := S5 T
 have G_up_to : ZD P w K mg base CX0 1 T.WQ T.UD ["box", "way", "at"] (lift K Zdl) := CV T
 have G_onward_from : ZD P w K mg base CX0 1 T.Ji T.Jh ["box", "way", "at"] (lift K Zdp) := V7 T
 have G_is_number_of : ZD P w K mg base CX0 2 T.JZ T.JY ["shape", "k"] (lift K S2) := Ka T
 have G_has_all : ZD P w K mg base CX0 5 T.YJ T.YG ["box", "other"] (lift K XG) := Wv T
 refine okD T.ZM.F JX (fun xs M Φ h => by obtain ⟨_, _, _, rfl, _⟩ := Z3 h; rfl) fun cdv A outer s H E hr => ⟨_, (Zf (ZV (Vj (Jc (Zk (K2 (kit_tuple _)) rfl T.QL Qt (Za (Zb 2) (Za (Eh rfl T.JW Q4) Zd))))) (Zi (Zm JD)) Zw)
 (Zf (ZV (DW.dt (Xp (Zz (Ja hr) (Zk Qw rfl T.JH Qx (Za (Zb 2) Zd)) Zc) (Y5 (Zz (Ja hr) (Zg (Zb 2) Zc) QM)))) (Zi (Zm (VI (Zh G_is_number_of (hr.mono (by first | decide | omega)) rfl T.Q5.m T.Q5.F.kp T.Q5.b Zp (Za (Zb 0) (Za (Zg (Zb 2) Zc) Zd))) (YM (Zh G_has_all (hr.mono (by first | decide | omega)) rfl T.JF.m T.JF.F.kp T.JF.b Zp (Za (Zg (Zb 0) (Zg (Zb 2) Zc)) (Za (Zb 1) Zd))))))) Zw)
 (Zf (ZV (DW.dt (Xp (Zz (Ja hr) (Zk Qw rfl T.JH Qx (Za (Zb 2) Zd)) Zc) (Xp (Zz (Ja hr) (Zg (Zb 2) Zc) QM) (Y5 (Jc (Zh G_cuts (hr.mono (by first | decide | omega)) rfl T.CZ.m T.CZ.F.kp T.CZ.b Zp (Za (Zb 1) (Za (Zg (Zb 2) Zc) (Za (Zg (Zb 2) Zc) Zd))))))))) (Zf (Zv 3 JX.nd (Zh G_up_to (hr.mono (by first | decide | omega)) rfl T.Ye.m T.Ye.F.kp T.Ye.b Zp (Za (Zb 1) (Za (Zg (Zb 2) Zc) (Za (Zg (Zb 2) Zc) Zd)))))
 (Zf (Zv 4 JX.nd (Zh G_onward_from (hr.mono (by first | decide | omega)) rfl T.Z5.m T.Z5.F.kp T.Z5.b Zp (Za (Zb 1) (Za (Zg (Zb 2) Zc) (Za (Zs ZE (Zg (Zb 2) Zc) Zc) Zd)))))
 (Zi (Zm (VI (Zh G_holds_cover (hr.mono (by first | decide | omega)) rfl T.ZM.m T.ZM.F.kp T.ZM.b Zp (Za (Zb 0) (Za (Zb 3) (Za (Zg (Zb 2) Zc) Zd)))) (YM (Zh G_holds_cover (hr.mono (by first | decide | omega)) rfl T.ZM.m T.ZM.F.kp T.ZM.b Zp (Za (Zb 0) (Za (Zb 4) (Za (Zg (Zb 2) Zc) Zd)))))))))) Zw)
 (Zi (Zm JD))))), fun xs M Φ h => ?_⟩
 replace h := Z3 h
 obtain ⟨x1, x2, x3, rfl, h⟩ := h
 replace h := ZW h
 obtain ⟨bs, rfl, h⟩ := h
 replace h := ZK h
 obtain ⟨b, rfl, h⟩ := h
 replace h := QY h
 obtain ⟨d, rfl, hp, h⟩ := h
 cases d with
 | tuple ds =>
  by_cases h2 : ds.length = 2
  ·obtain ⟨x, k, rfl⟩ := Gp h2
   have e : ZJ bs (n + 1) b (.tuple [x, k]) = (isS x (Str.ofString "box") && X8 bs b k) := rfl
   rw [e] at h
   walk_at "hd"
   walk_at "rk"
   walk_at "hd"
   walk_at "rk"
   refine Up hp VY ?_
   cases q : isS x (Str.ofString "box") with
   | false =>
    rw [q] at h
    subst_vars
    walk_at "rk"
    simpa using h
   | true =>
    rw [q, Bool.true_and] at h
    walk_at "rk"
    cases k with
    | int k =>
     have el : X8 bs b (.int k) = (DJ bs k && (match bs[k.toNat]? with | some c => allB c b | none => false)) := rfl
     rw [el] at h
     have en : Zab bs (.int k) = DJ bs k := rfl
     rw [en]
     cases hn : DJ bs k with
     | false =>
      rw [hn] at h
      walk_at "rk"
      simpa using h
     | true =>
      rw [hn] at h
      walk_at "rk"
      have hk : 0 ≤ k ∧ k < bs.length := by
       unfold DJ at hn
       simpa using hn
      obtain ⟨c, ec⟩ : ∃ c, bs[k.toNat]? = some c := ⟨_, List.getElem?_eq_getElem (by omega)⟩
      rw [ec] at h
      obtain ⟨j, rfl⟩ := Int.eq_ofNat_of_zero_le hk.1
      refine Q7 (d := bD c) (Vh (by rw [List.getElem?_map]; rw [Int.toNat_natCast] at ec; rw [ec]; rfl)) ?_
      walk_at "rk"
      simpa using h
    | _ =>
     unfold Zab
     walk_at "rk"
     simpa [X8] using h
  ·by_cases h5 : ds.length = 5
   ·obtain ⟨x, i, a, p, q, rfl⟩ := Kn h5
    have e : ZJ bs (n + 1) b (.tuple [x, i, a, p, q]) = (isS x (Str.ofString "cut") && (YB b i a && (ZJ bs n (upD b i a) p && ZJ bs n (owD b i a) q))) := rfl
    rw [e] at h
    walk_at "hd"
    walk_at "rk"
    walk_at "hd"
    walk_at "rk"
    subst_vars
    walk_at "rk"
    refine Up hp.1 VY ?_
    cases hx : isS x (Str.ofString "cut") with
    | false =>
     rw [hx] at h
     walk_at "rk"
     simpa using h
    | true =>
     rw [hx, Bool.true_and] at h
     walk_at "rk"
     cases hc : YB b i a with
     | false =>
      rw [hc] at h
      walk_at "rk"
      simpa using h
     | true =>
      rw [hc, Bool.true_and] at h
      cases i with
      | int i =>
       cases a with
       | int a =>
        walk_at "rk"
        refine ⟨hp.2.1, ?_⟩
        have e1 : upD b (.int i) (.int a) = upB b i a := rfl
        have e2 : owD b (.int i) (.int a) = owB b i (a + 1) := rfl
        rw [e1, e2] at h
        cases hq : ZJ bs n (upB b i a) p with
        | false =>
         rw [hq] at h
         walk_at "rk"
         simpa using h
        | true =>
         rw [hq, Bool.true_and] at h
         walk_at "rk"
         exact ⟨hp.2.2, h⟩
       | _ => cases hc
      | _ => cases hc
   ·rw [Vo h2 h5] at h
    walk_at "hd"
    walk_at "rk"
    walk_at "hd"
    walk_at "rk"
    refine Zj (fun z => absurd z (by omega)) fun _ => ?_
    subst_vars
    walk_at "rk"
    refine Zj (fun z => absurd z (by omega)) fun _ => ?_
    exact h
 | _ =>
  walk_at "hd"
  walk_at "rk"
  simpa [ZJ] using h
theorem Uw (T : Tx K mg) : ZD P w K mg base CX0 3 T.VD T.Vp ["shape", "box", "way"] (lift K W9) := by
 have G_steps_between : ZD P w K mg base CX0 2 T.Qm T.Qh ["one", "other"] (lift K Vx) := Q9 T
 refine okG T.Qp.F Vb (fun xs M Φ h => by obtain ⟨_, _, _, rfl, _⟩ := Z3 h; rfl) fun cdv A outer s H E hr => ⟨_, (Zf (Zv 3 Vb.nd (QP Zd))
 (Zf (BP (Zb 0) (Zl 4 Vb.nd) (Zi (ZV (Zz (Ja hr) (Zh G_steps_between (hr.mono (by first | decide | omega)) rfl T.ZI.m T.ZI.F.kp T.ZI.b Zp (Za (Zb 4) (Za (Zb 1) Zd))) Zc) (Zi (Va (GX (Zb 3) (QP (Za (Zs Qa (Zg (Zg (Zb 4) Zc) (Zb 2)) Zc) (Za (Zg (Zg (Zb 4) Zc) (Zb 2)) Zd)))))) Zw)) PassesOwn.never rfl)
 (Zi (Zm (GI rfl T.Cr rfl T.ZeP (Za (QV false (ZH (sc := Ze Qo) (XN := ["shape", "box", "way", "places", "other"]) (N := ["at", "way", "box"]) (ix := [none, some 2, some 1]) rfl rfl (by decide +kernel)) (JG (DB (Zb 3))) (fun C ex s H => (Zl 0 (show List.Nodup (["at", "way", "box"] : List Str) by decide +kernel))) (fun C ex s H => (B6 (WC Xt Xy (Zg (Zg (Zb 2) Zc) (Zb 1)) (Zb 0) (Zg (Zg (Zb 2) Zc) (Zb 1))))) (fun C ex s H => (Zb 0)) rfl) Zd)))))), fun xs M Φ h => ?_⟩
 replace h := Z3 h
 obtain ⟨x1, x2, x3, rfl, h⟩ := h
 replace h := ZW h
 obtain ⟨bs, rfl, h⟩ := h
 replace h := ZK h
 obtain ⟨b, rfl, h⟩ := h
 replace h := ZO h
 obtain ⟨i, rfl, ⟨hl, hi⟩, h⟩ := h
 walk_at "hd"
 walk_at "rk"
 intro q hq
 walk_at "hd"
 walk_at "rk"
 refine ⟨fun n Δ M' => ∃ k4, Δ = [some (.dat (.tuple (bs.map bD))), some (.dat (bD b)), some (.dat (.int i)), some (.own q), k4] ∧ M' = Z8 M q (.lst ((plB b i (bs.take n)).map PyData.int)), ⟨none, rfl, rfl⟩, ?_, ?_⟩
 ·rintro n d Δ M' hd ⟨k4, rfl, rfl⟩
  obtain ⟨c, ec, rfl⟩ := Z1 hd
  have len := Hs b i (bs.take n)
  rw [List.length_take] at len
  have sn := Ox (b := b) (w := i) ec
  rw [XI]
  walk_at "rk"
  refine Zj (fun z => ?_) fun z => ?_
  ·rw [if_pos z] at sn
   simp only [Dm hi, CQ hi]
   walk_at "rk"
   intro p hp
   have hne := fresh_ne hp
   simp only [Qy (Ne.symm hne)]
   walk_at "rk"
   refine ⟨hne, by rw [List.length_map]; omega, _, rfl, ?_⟩
   rw [LJ hp, sn, List.map_append]
   rfl
  ·rw [if_neg z, List.append_nil] at sn
   rw [← sn]
   exact ⟨_, rfl, rfl⟩
 ·rintro Δ M' ⟨k4, rfl, rfl⟩
  rw [List.length_map, List.take_length]
  subst_vars
  walk_at "rk"
  have len := Hs b i bs
  rw [XY hq]
  refine ⟨by rw [List.length_map]; omega, fun n acc M' => acc = (((plB b i bs).take n).filter fun z => decide (loB b i ≤ z) && decide (z < hiB b i)).map PyData.int ∧ M' = M, ⟨rfl, rfl⟩, ?_, ?_⟩
  ·rintro n d acc M' hd ⟨rfl, rfl⟩
   obtain ⟨z, ez, rfl⟩ := Z1 hd
   have flt := X6 (fun z => decide (loB b i ≤ z) && decide (z < hiB b i)) ez
   rw [Dm hi]
   walk_at "rk"
   refine Zj (fun z0 => ?_) fun z0 => ?_
   ·rw [CQ hi]
    walk_at "rk"
    refine Zj (fun z1 => ?_) fun z1 => ?_
    ·rw [flt, if_pos (by rw [decide_eq_true z0, decide_eq_true z1]; rfl), List.map_append]
     rfl
    ·rw [flt, if_neg (by rw [decide_eq_false z1, Bool.and_false]; exact Bool.false_ne_true), List.append_nil]
   ·rw [flt, if_neg (by rw [decide_eq_false z0, Bool.false_and]; exact Bool.false_ne_true), List.append_nil]
  ·rintro acc M' ⟨rfl, rfl⟩
   rw [List.length_map, List.take_length]
   refine ⟨_, .inl rfl, Nat.lt_of_le_of_lt (List.length_filter_le _ _) (by omega), fun ks _ _ hk => ZeO (h ks (fun z hz => ?_) fun c hc h0 he => ?_)⟩
   ·obtain ⟨h1, h2⟩ := List.mem_filter.mp ((hk z).mp hz)
    simp only [Bool.and_eq_true, decide_eq_true_eq] at h2
    exact ⟨h2, TU h1⟩
   ·have he := LQ.mp he
    exact (hk _).mpr (List.mem_filter.mpr ⟨Tw hc h0, by simp only [Bool.and_eq_true, decide_eq_true_eq]; exact he⟩)
theorem Bo (T : Tx K mg) (n : Nat) : ZD P w K mg base CX0 (6 + n) T.J5 T.J7 ["shape", "box"] (lift K (Y3 n)) := by
 refine Nat.rec (motive := fun n => ZD P w K mg base CX0 (6 + n) T.J5 T.J7 ["shape", "box"] (lift K (Y3 n))) ?_ (fun n G_cover_of => ?_) n
 ·exact U7 Gr
 show ZD P w K mg base CX0 (6 + n + 1) T.J5 T.J7 ["shape", "box"] (lift K (Y3 (n + 1)))
 have G_cut_places : ZD P w K mg base CX0 3 T.VD T.Vp ["shape", "box", "way"] (lift K W9) := Uw T
 have G_has_all : ZD P w K mg base CX0 5 T.YJ T.YG ["box", "other"] (lift K XG) := Wv T
 have G_up_to : ZD P w K mg base CX0 1 T.WQ T.UD ["box", "way", "at"] (lift K Zdl) := CV T
 have G_onward_from : ZD P w K mg base CX0 1 T.Ji T.Jh ["box", "way", "at"] (lift K Zdp) := V7 T
 refine okD T.Qc.F Qq (fun xs M Φ h => by obtain ⟨_, _, rfl, _⟩ := Zx h; rfl) fun cdv A outer s H E hr => ⟨_, (Zf (Vg rfl T.Q6 (Za (Zk Qw rfl T.JH Qx (Za (Zb 0) Zd)) Zd) (Zl 2 Qq.nd) (Zi (ZV (Jc (Zh G_has_all (hr.mono (by first | decide | omega)) rfl T.JF.m T.JF.F.kp T.JF.b Zp (Za (Zg (Zb 0) (Zb 2)) (Za (Zb 1) Zd)))) (Zi (Zm (Zn (Za QM (Za (Zb 2) Zd))))) Zw)) PassesOwn.never rfl)
 (Zf (Zv 3 Qq.nd (Zh G_cut_places (hr.mono (by first | decide | omega)) rfl T.Qp.m T.Qp.F.kp T.Qp.b Zp (Za (Zb 0) (Za (Zb 1) (Za Zc Zd)))))
 (Zf (Zv 4 Qq.nd (Zh G_cut_places (hr.mono (by first | decide | omega)) rfl T.Qp.m T.Qp.F.kp T.Qp.b Zp (Za (Zb 0) (Za (Zb 1) (Za Zc Zd)))))
 (Zf (Zv 5 Qq.nd (HS (Zz Zcr (Zk Qw rfl T.JH Qx (Za (Zb 3) Zd)) (Zk Qw rfl T.JH Qx (Za (Zb 4) Zd))) Zc Zc))
 (Zf (Zv 6 Qq.nd (HS (Zz (Ja hr) (Zb 5) Zc) (Zb 3) (Zb 4)))
 (Zf (Zv 7 Qq.nd (Zg (Zb 6) (Zs HF (Zk Qw rfl T.JH Qx (Za (Zb 6) Zd)) Zc)))
 (Zf (Zv 8 Qq.nd (Zh G_cover_of (hr.mono (by first | decide | omega)) rfl T.Qc.m T.Qc.F.kp T.Qc.b Zp (Za (Zb 0) (Za (Zh G_up_to (hr.mono (by first | decide | omega)) rfl T.Ye.m T.Ye.F.kp T.Ye.b Zp (Za (Zb 1) (Za (Zb 5) (Za (Zb 7) Zd)))) Zd))))
 (Zi (Zm (Zn (Za QM (Za (Zb 5) (Za (Zb 7) (Za (Zb 8) (Za (Zh G_cover_of (hr.mono (by first | decide | omega)) rfl T.Qc.m T.Qc.F.kp T.Qc.b Zp (Za (Zb 0) (Za (Zh G_onward_from (hr.mono (by first | decide | omega)) rfl T.Z5.m T.Z5.F.kp T.Z5.b Zp (Za (Zb 1) (Za (Zb 5) (Za (Zs ZE (Zb 7) Zc) Zd)))) Zd))) Zd))))))))))))))), fun xs M Φ h => ?_⟩
 replace h := Zx h
 obtain ⟨x1, x2, rfl, h⟩ := h
 replace h := ZW h
 obtain ⟨bs, rfl, h⟩ := h
 replace h := ZK h
 obtain ⟨b, rfl, ⟨⟨hl, hb, hc⟩, hn⟩, h⟩ := h
 walk_at "hd"
 walk_at "rk"
 rw [List.length_map]
 refine ⟨⟨by omega, by omega⟩, fun i Δ M' => ∃ k2, Δ = [some (.dat (.tuple (bs.map bD))), some (.dat (bD b)), k2, none, none, none, none, none, none] ∧ M' = M ∧ ∀ j c, j < i → bs[j]? = some c → allB c b = false, ⟨none, rfl, rfl, fun j c hj => absurd hj (Nat.not_lt_zero _)⟩, ?_, ?_⟩
 ·rintro i Δ M' hi ⟨k2, rfl, rfl, ha⟩
  have hi : i < bs.length := by omega
  obtain ⟨c, ec⟩ : ∃ c, bs[i]? = some c := ⟨_, List.getElem?_eq_getElem hi⟩
  rw [XI]
  walk_at "rk"
  refine Q7 (d := bD c) (Vh (by rw [List.getElem?_map, ec]; rfl)) ?_
  walk_at "rk"
  cases q : allB c b with
  | true =>
   walk_at "rk"
   exact h (.box (i : Int)) (LN ec q) (Nat.succ_le_succ (Nat.zero_le _))
  | false =>
   walk_at "rk"
   refine ⟨_, rfl, fun j c' hj ej => ?_⟩
   by_cases e : j = i
   ·rw [e, ec] at ej
    cases ej
    exact q
   ·exact ha j c' (by omega) ej
 ·rintro Δ M' ⟨k2, rfl, rfl, ha⟩
  have no : ∀ c ∈ bs, allB c b = false := fun c mc => by
   obtain ⟨j, hj, ej⟩ := List.mem_iff_getElem.mp mc
   exact ha j c (by omega) (by rw [← ej]; exact List.getElem?_eq_getElem hj)
  obtain ⟨c0, m0, a0, e0⟩ := Si hb hc no
  walk_at "hd"
  walk_at "rk"
  refine ⟨⟨hl, .inl trivial⟩, fun k0 c0' x0 => ?_⟩
  walk_at "hd"
  walk_at "rk"
  refine ⟨⟨hl, .inr trivial⟩, fun k1 c1' x1 => ?_⟩
  walk_at "hd"
  walk_at "rk"
  rename_i R hR
  rw [List.length_map, List.length_map]
  suffices rest : ∀ (w : Int) (ks : List Int), (w = 0 ∧ ks = k0) ∨ (w = 1 ∧ ks = k1) → ks ≠ [] → R { nx := fun _ M' => Φ (.dat .none) M', rt := Φ } [some (.dat (.tuple (bs.map bD))), some (.dat (bD b)), k2, some (.dat (.list (k0.map PyData.int))), some (.dat (.list (k1.map PyData.int))), some (.dat (.int w)), none, none, none] M' by
   have some0 : k0 ≠ [] ∨ k1 ≠ [] := e0.imp (fun e z => by have := x0 c0 m0 a0 e; rw [z] at this; cases this) fun e z => by have := x1 c0 m0 a0 e; rw [z] at this; cases this
   refine Zj (fun z => rest 0 k0 (.inl ⟨rfl, rfl⟩) fun e => ?_) fun z => rest 1 k1 (.inr ⟨rfl, rfl⟩) fun e => ?_
   ·rcases some0 with y | y
    ·exact y e
    ·have := List.length_pos_iff.mpr y
     rw [e] at z
     simp only [List.length_nil] at z
     omega
   ·rw [e] at z
    simp only [List.length_nil] at z
    omega
  intro w ks hw hne
  have hw' : w = 0 ∨ w = 1 := hw.imp (·.1) (·.1)
  have hks : ∀ z ∈ ks, RW bs b w z := by rcases hw with ⟨rfl, rfl⟩ | ⟨rfl, rfl⟩ <;> assumption
  have hpos := List.length_pos_iff.mpr hne
  have hm : ks.length / 2 < ks.length := by omega
  have ck := hks _ (List.getElem_mem hm)
  have idx : L2.atI (ks.map PyData.int) ((ks.length : Int) / 2) = some (.int (ks[ks.length / 2]'hm)) := by
   rw [show (ks.length : Int) / 2 = ((ks.length / 2 : Nat) : Int) by omega]
   exact Vh (by rw [List.getElem?_map, List.getElem?_eq_getElem hm]; rfl)
  generalize ks[ks.length / 2]'hm = a at *
  obtain ⟨⟨ck1, ck2⟩, cd, mcd, ecd⟩ := ck
  have ok2 := GF hb hw' ck1 ck2
  have cv2 := hc.sub hw' ck1 ck2
  have ms := TZ (bs := dbl bs) hw' ck1 ck2 mcd ecd
  clear ecd
  subst hR
  walk_at "hd"
  rename_i R hR
  suffices rest : R { nx := fun _ M' => Φ (.dat .none) M', rt := Φ } [some (.dat (.tuple (bs.map bD))), some (.dat (bD b)), k2, some (.dat (.list (k0.map PyData.int))), some (.dat (.list (k1.map PyData.int))), some (.dat (.int w)), some (.dat (.list (ks.map PyData.int))), none, none] M' by
   rcases hw with ⟨rfl, rfl⟩ | ⟨rfl, rfl⟩
   ·walk_at "rk"
    exact rest
   ·walk_at "rk"
    exact rest
  subst hR
  walk_at "hd"
  walk_at "rk"
  rw [List.length_map]
  refine ⟨by unfold Zd7; decide, Q7 idx ?_⟩
  walk_at "hd"
  walk_at "rk"
  refine ⟨⟨⟨hl, ok2.1, cv2.1⟩, by omega⟩, fun c1 h1 d1 => ?_⟩
  subst_vars
  walk_at "rk"
  refine ⟨⟨⟨hl, ok2.2, cv2.2⟩, by omega⟩, fun c2 h2 d2 => ?_⟩
  exact h (.cut w a c1 c2) (Yw hw' ck1 ck2 h1 h2) (by rw [Vd]; omega)
theorem Et (T : Tx K mg) : ZD P w K mg base CX0 32 T.KC T.X0 ["shape", "box"] (lift K KD) := by
 have G_left_over : ZD P w K mg base CX0 4 T.JA T.Jt ["box", "others"] (lift K UT) := Vy T
 have G_cover_of : ZD P w K mg base CX0 31 T.J5 T.J7 ["shape", "box"] (lift K (Y3 25)) := Bo T 25
 refine okD T.YC.F Wm (fun xs M Φ h => by obtain ⟨_, _, rfl, _⟩ := Zx h; rfl) fun cdv A outer s H E hr => ⟨_, (Zf (Zv 2 Wm.nd (Zh G_left_over (hr.mono (by first | decide | omega)) rfl T.ZZ.m T.ZZ.F.kp T.ZZ.b Zp (Za (Zb 1) (Za (Zb 0) Zd))))
 (Zf (ZV (Rf (Zb 2)) (Zi (Zm (Zn (Za QM (Za (Zk (Tf hr rfl) rfl T.Yj JE (Za (QV false (ZH (sc := Ze Jw) (XN := ["shape", "box", "lacking"]) (N := ["piece"]) (ix := [none]) rfl rfl (by decide +kernel)) (JG (Zb 2)) (fun C ex s H => (Zl 0 (show List.Nodup (["piece"] : List Str) by decide +kernel))) (fun C ex s H => Z0) (fun C ex s H => (Zg (Zb 0) Zc)) rfl) Zd)) Zd))))) Zw)
 (Zi (Zm (Zn (Za QM (Za (Zh G_cover_of (hr.mono (by first | decide | omega)) rfl T.Qc.m T.Qc.F.kp T.Qc.b Zp (Za (Zb 0) (Za (Zb 1) Zd))) Zd))))))), fun xs M Φ h => ?_⟩
 replace h := Zx h
 obtain ⟨x1, x2, rfl, h⟩ := h
 replace h := ZW h
 obtain ⟨bs, rfl, h⟩ := h
 replace h := ZK h
 obtain ⟨b, rfl, ⟨hs, hb⟩, h1, h2⟩ := h
 walk_at "hd"
 walk_at "rk"
 refine ⟨hs.2.1, ?_⟩
 have len := X1 b bs hs.2.1
 walk_at "hd"
 walk_at "rk"
 refine Bw (fun z => ?_) fun z => ?_
 ·refine ⟨by rw [List.length_map]; omega, fun i acc M' => acc = (((QS b bs).take i).map fun p => (p.x, p.y)).map prD ∧ M' = M, ⟨rfl, rfl⟩, ?_, ?_⟩
  ·rintro i d acc M' hd ⟨rfl, rfl⟩
   obtain ⟨p, ep, rfl⟩ := Z1 hd
   walk_at "rk"
   rw [← take_snoc _ ep, List.map_append]
   rfl
  ·rintro acc M' ⟨rfl, rfl⟩
   rw [List.length_map, List.take_length]
   refine ⟨_, rfl, ?_, fun q hq lq => h2 q.1 q.2 (Oj hb hs.2.2 q hq lq)⟩
   rw [List.length_map]
   cases e : QS b bs with
   | nil => rw [e] at z; exact absurd z (by decide)
   | cons x xs => exact Nat.succ_pos _
 ·have e : QS b bs = [] := by
   cases e : QS b bs with
   | nil => rfl
   | cons x xs => rw [e] at z; exact absurd rfl z
  have cv := OK hb hs.2.2 e
  have cn := ZbM (dbl bs) b
  have dl : (dbl bs).length = bs.length + bs.length := by
   unfold dbl
   rw [List.length_append, List.length_map]
  have hs6 := hs.2.1
  subst_vars
  walk_at "rk"
  exact ⟨⟨⟨hs.2.1, hb, cv⟩, by omega⟩, h1 cv⟩
theorem ER (T : Tx K mg) : ZD P w K mg base CX0 33 T.WR T.UJ ["one", "other"] (lift K UC) := by
 have G_covered : ZD P w K mg base CX0 32 T.KC T.X0 ["shape", "box"] (lift K KD) := Et T
 refine okD T.XH.F Kf (fun xs M Φ h => by obtain ⟨_, _, rfl, _⟩ := Zx h; rfl) fun cdv A outer s H E hr => ⟨_, (Zf (Bm 2 false Kf.nd (ZH (sc := Ze Jl) (XN := ["one", "other", "answers", "lacking"]) (N := ["box", "other"]) (ix := [none, some 1]) rfl rfl (by decide +kernel)) (Kb (Zb 0)) (fun C ex s H => (Zl 0 (show List.Nodup (["box", "other"] : List Str) by decide +kernel))) (fun C ex s H => Z0) (fun C ex s H => (Zh G_covered (hr.mono (by first | decide | omega)) rfl T.YC.m T.YC.F.kp T.YC.b Zp (Za (Zb 1) (Za (Zb 0) Zd)))) rfl)
 (Zf (Bm 3 false Kf.nd (ZH (sc := Ze Jl) (XN := ["one", "other", "answers", "lacking"]) (N := ["answer"]) (ix := [none]) rfl rfl (by decide +kernel)) (JG (Zb 2)) (fun C ex s H => (Zl 0 (show List.Nodup (["answer"] : List Str) by decide +kernel))) (fun C ex s H => (B6 (Zz (Ja hr) (Zg (Zb 0) Zc) QM))) (fun C ex s H => (Zg (Zb 0) Zc)) rfl)
 (Zf (ZV (Rf (Zb 3)) (Zi (Zm (Zn (Za QM (Za (Zk (Ke rfl) rfl T.Yj JE (Za (Zb 3) Zd)) Zd))))) Zw)
 (Zi (Zm (Zn (Za QM (Za (QV false (ZH (sc := Ze Jl) (XN := ["one", "other", "answers", "lacking"]) (N := ["answer"]) (ix := [none]) rfl rfl (by decide +kernel)) (JG (Zb 2)) (fun C ex s H => (Zl 0 (show List.Nodup (["answer"] : List Str) by decide +kernel))) (fun C ex s H => Z0) (fun C ex s H => (Zg (Zb 0) Zc)) rfl) Zd)))))))), fun xs M Φ h => ?_⟩
 replace h := Zx h
 obtain ⟨x1, x2, rfl, h⟩ := h
 replace h := ZW h
 obtain ⟨b1, rfl, h⟩ := h
 replace h := ZW h
 obtain ⟨b2, rfl, ⟨s1, s2, hc⟩, h⟩ := h
 walk_at "hd"
 walk_at "rk"
 have l6 := s1.2.1
 refine ⟨by rw [List.length_map]; omega, fun i acc M' => (∃ cs, Cvs b2 (b1.take i) cs ∧ acc = cs.map ZeK) ∧ M' = M, ⟨⟨[], ⟨by simp, fun i b c hb => by simp at hb⟩, rfl⟩, rfl⟩, ?_, ?_⟩
 ·rintro i d acc M' hd ⟨⟨cs, hcs, rfl⟩, rfl⟩
  obtain ⟨b, eb, rfl⟩ := Z1 hd
  have mb := List.mem_of_getElem? eb
  walk_at "rk"
  refine ⟨⟨s2, s1.2.2 b mb⟩, fun _ c h1 h2 => ⟨cs ++ [c], ?_, by rw [List.map_append]; rfl⟩, fun u v hl => absurd (hc b mb) hl.Zgw⟩
  rw [List.take_succ, eb]
  exact hcs.snoc h1 h2
 rintro acc M' ⟨⟨cs, hcs, rfl⟩, rfl⟩
 rw [List.length_map, List.take_length] at hcs
 have hl := hcs.1
 walk_at "hd"
 walk_at "rk"
 refine ⟨by rw [List.length_map]; omega, fun i acc M2 => acc = [] ∧ M2 = M', ⟨rfl, rfl⟩, ?_, ?_⟩
 ·rintro i d acc M2 hd ⟨rfl, rfl⟩
  obtain ⟨c, ec, rfl⟩ := Z1 hd
  unfold ZeK
  walk_at "rk"
  rw [if_neg (by decide +kernel)]
  trivial
 rintro acc M2 ⟨rfl, rfl⟩
 walk_at "hd"
 walk_at "rk"
 simp only [List.isEmpty_nil, Bool.not_true, Bool.false_eq_true, if_false]
 subst_vars
 walk_at "rk"
 refine ⟨by rw [List.length_map]; omega, fun i acc M' => acc = (cs.take i).map cvD ∧ M' = M2, ⟨rfl, rfl⟩, ?_, ?_⟩
 ·rintro i d acc M' hd ⟨rfl, rfl⟩
  obtain ⟨c, ec, rfl⟩ := Z1 hd
  unfold ZeK
  walk_at "rk"
  rw [← take_snoc _ ec]
 ·rintro acc M' ⟨rfl, rfl⟩
  rw [List.length_map, List.take_length]
  exact h cs hcs
theorem ZcI (T : Tx K mg) : ZD P w K mg base CX0 1 T.Ts T.SJ ["_law_script", "_law_k"] (lift K E3) := by
 refine okD T.Mq.F LY (fun xs M Φ h => by obtain ⟨_, _, rfl, _⟩ := Zx h; rfl) fun cdv A outer s H E hr => ⟨_, (Zf (Zv 2 LY.nd Zc)
 (Zf (ZV (Zz WI (Zk Qw rfl T.JH Qx (Za (Zb 0) Zd)) Zc) (Zi (Zv 2 LY.nd (Zg (Zb 0) (Zs Yr (Zb 1) (Zk Qw rfl T.JH Qx (Za (Zb 0) Zd)))))) Zw)
 (Zf (ZV (DW.dt (Xp (Zz Xy (Zb 1) (Zk Qw rfl T.JH Qx (Za (Zb 0) Zd))) (Y5 (Zz Zcr (Zk Po rfl T.ZaL Py (Za (Zb 2) Zd)) (Zs Ww Zc Zc))))) (Zi (Zm (QP (Za (Zk Po rfl T.ZaL Py (Za (Zb 2) Zd)) (Za Zc (Za Zc Zd)))))) Zw)
 (Zi (Zm (QP (Za Zc (Za (Zs Yr (Zs ZE (Zs ZE (Zs Yr (Zb 2) Zc) (Zs Vm Zc (Zb 1))) Zc) Zc) (Za Zc Zd))))))))), fun xs M Φ h => ?_⟩
 replace h := Zx h
 obtain ⟨x1, x2, rfl, h⟩ := h
 replace h := Ti h
 obtain ⟨ns, rfl, h⟩ := h
 replace h := ZO h
 obtain ⟨k, rfl, h0, h⟩ := h
 have fin : ∀ c : Int, (0 : Int) < 2147483587 ∧ T5 40709 k ∧ (0 : Int) < 2147483587 ∧ ∀ p, M p = none → Φ (.own p) (Z8 M p (.lst [.int 0, .int ((c % 2147483587 + 40709 * k + 31) % 2147483587), .int 0])) :=
  fun c => ⟨by decide, .inl (by decide), by decide, fun p hp => h p _ hp ⟨0, _, 0, Int.le_refl 0, Ec _ (by decide), Int.le_refl 0, rfl⟩⟩
 walk_at "hd"
 walk_at "rk"
 walk_at "hd"
 walk_at "rk"
 rw [List.length_map]
 refine Zj (fun hl => ?_) (fun hl => ?_)
 ·have hm := Ec k hl
  obtain ⟨c, hc⟩ := Rl (ns := ns) hm.1 hm.2
  refine ⟨hl, Q7 hc ?_⟩
  walk_at "hd"
  walk_at "rk"
  rw [List.length_map]
  refine Zj (fun h2 => ⟨T7 _ (by decide), Zj (fun h3 => fun p hp => h p _ hp ⟨_, 0, 0, ?_, ⟨by decide, by decide⟩, Int.le_refl 0, rfl⟩) fun h3 => ?_⟩) fun h2 => ?_
  ·split <;> omega
  ·subst_vars
   walk_at "rk"
   exact ⟨(fin c).2.1, (fin c).2.2.2⟩
  ·subst_vars
   walk_at "rk"
   exact ⟨(fin c).2.1, (fin c).2.2.2⟩
 ·walk_at "hd"
  walk_at "rk"
  rw [List.length_map]
  refine Zj (fun h2 => absurd h2 (by omega)) fun h2 => ?_
  subst_vars
  walk_at "rk"
  exact ⟨(fin 5).2.1, (fin 5).2.2.2⟩
theorem Vv (T : Tx K mg) : ZD P w K mg base CX0 1 T.V2 T.V5 ["_law_pen_here", "_law_many"] (lift K V9) := by
 refine okD T.Zo.F XS (fun xs M Φ h => by obtain ⟨_, _, rfl, _⟩ := Zx h; rfl) fun cdv A outer s H E hr => ⟨_, (Zf (ZV (Zz WI (Zg (Zb 0) Zc) Zc) (Zf (Zv 3 XS.nd (Zs Yr (Zg (Zb 0) Zc) (Zb 1)))
 (Zf (Jb (Zs Ov (Zg (Zb 0) Zc) (Zb 1)) (Hf (Zb 0) Zc))
 (Zi (Zm (Zb 3))))) Zw)
 (Zf (Jb (Zs ZE (Zg (Zb 0) Zc) Zc) (Hf (Zb 0) Zc))
 (Zf (Zv 2 XS.nd (Zs Yr (Zs ZE (Zs ZE (Zs Vm (Zg (Zb 0) Zc) Zc) (Zs Vm (Zg (Zb 0) Zc) Zc)) Zc) Zc))
 (Zf (Zv 2 XS.nd (Zs Yr (Zs ZE (Zs Vm (Zb 2) (Zb 2)) (Zg (Zb 0) Zc)) Zc))
 (Zf (Zv 2 XS.nd (Zs Yr (Zs Vm (Zb 2) (Zs ZE (Zs Yr (Zb 2) Zc) Zc)) Zc))
 (Zi (Zm (Zs Yr (Zs HF (Zb 2) Zc) (Zb 1))))))))), fun xs M Φ h => ?_⟩
 replace h := Zx h
 obtain ⟨x1, x2, rfl, h⟩ := h
 replace h := Jf h
 obtain ⟨p, rfl, h⟩ := h
 replace h := ZO h
 obtain ⟨m, rfl, ⟨h0, h1⟩, hp, h⟩ := h
 obtain ⟨a, b, c, ⟨ha, hb, hc⟩, hp⟩ := hp.get
 have lg : m.natAbs.log2 < 9000 := Nat.lt_of_lt_of_le (CU (k := 70) (by omega) (by decide)) (by decide)
 walk_at "hd"
 walk_at "rk"
 simp only [hp]
 walk_at "rk"
 refine Zj (fun h2 => ?_) fun h2 => ?_
 ·exact ⟨h0, ⟨h0, lg⟩, h _ _ (Ec a h0).1 (Ec a h0).2 (Fr.Z8 ⟨a / m, b, c, Int.ediv_nonneg ha (by omega), hb, hc, rfl⟩)⟩
 ·walk_at "hd"
  walk_at "rk"
  simp only [hp]
  walk_at "rk"
  walk_at "hd"
  walk_at "rk"
  refine ⟨.inr (by decide), .inr (by decide), ?_⟩
  walk_at "hd"
  walk_at "rk"
  refine ⟨.inl (by omega), ?_⟩
  walk_at "hd"
  walk_at "rk"
  refine ⟨.inl (by omega), ?_⟩
  subst_vars
  walk_at "rk"
  refine ⟨⟨by decide, by decide⟩, h0, ?_⟩
  exact h _ _ (Ec _ h0).1 (Ec _ h0).2 (Fr.Z8 ⟨a, b, c + 1, ha, hb, by omega, rfl⟩)
theorem T1 (T : Tx K mg) : ZD P w K mg base CX0 2 T.FJ T.Fw ["_law_pen_here"] (lift K GB) := by
 have G_draw : ZD P w K mg base CX0 1 T.V2 T.V5 ["_law_pen_here", "_law_many"] (lift K V9) := Vv T
 refine okD T.Cy.F KL (fun xs M Φ h => by obtain ⟨_, rfl, _⟩ := Qn h; rfl) fun cdv A outer s H E hr => ⟨_, (Zf (Zv 1 KL.nd (QA (Za (Zh G_draw (hr.mono (by first | decide | omega)) rfl T.Zo.m T.Zo.F.kp T.Zo.b Zp (Za (Zb 0) (Za Zc Zd))) (Za (Zh G_draw (hr.mono (by first | decide | omega)) rfl T.Zo.m T.Zo.F.kp T.Zo.b Zp (Za (Zb 0) (Za Zc Zd))) Zd))))
 (Zf (VW 2 false KL.nd (ZH (sc := Ze KN) (XN := ["_law_pen_here", "_law_low", "_law_high", "_law_thick", "_law_found"]) (N := ["_law_one", "_law_pen_here"]) (ix := [none, some 0]) rfl rfl (by decide +kernel)) (JG (Zb 1)) (fun C ex s H => (Zl 0 (show List.Nodup (["_law_one", "_law_pen_here"] : List Str) by decide +kernel))) (fun C ex s H => Z0) (fun C ex s H => (Zs ZE (Zs ZE (Zb 0) Zc) (Zh G_draw (hr.mono (by first | decide | omega)) rfl T.Zo.m T.Zo.F.kp T.Zo.b Zp (Za (Zb 1) (Za Zc Zd))))) rfl)
 (Zf (Zv 3 KL.nd (Zh G_draw (hr.mono (by first | decide | omega)) rfl T.Zo.m T.Zo.F.kp T.Zo.b Zp (Za (Zb 0) (Za Zc Zd))))
 (Zf (Zv 4 KL.nd (QP (Za (Zn (Za (Zn (Za (Zg (Zb 1) Zc) (Za (Zg (Zb 1) Zc) Zd))) (Za (Zn (Za (Zg (Zb 2) Zc) (Za (Zs ZE (Zg (Zb 1) Zc) (Zb 3)) Zd))) Zd))) (Za (Zn (Za (Zn (Za (Zs Qa (Zg (Zb 2) Zc) (Zb 3)) (Za (Zg (Zb 1) Zc) Zd))) (Za (Zn (Za (Zg (Zb 2) Zc) (Za (Zg (Zb 2) Zc) Zd))) Zd))) Zd))))
 (Zf (Va (Jx (Zb 4) (Zn (Za (Zn (Za (Zg (Zb 1) Zc) (Za (Zs Qa (Zg (Zb 2) Zc) (Zb 3)) Zd))) (Za (Zn (Za (Zg (Zb 2) Zc) (Za (Zg (Zb 2) Zc) Zd))) Zd)))))
 (Zi (Zm (Zs Kk (Zb 4) (QA (Za (Zn (Za (Zn (Za (Zg (Zb 1) Zc) (Za (Zg (Zb 1) Zc) Zd))) (Za (Zn (Za (Zs ZE (Zg (Zb 1) Zc) (Zb 3)) (Za (Zg (Zb 2) Zc) Zd))) Zd))) Zd)))))))))), fun xs M Φ h => ?_⟩
 replace h := Qn h
 obtain ⟨x1, rfl, h⟩ := h
 replace h := Jf h
 obtain ⟨p, rfl, hp, h⟩ := h
 walk_at "hd"
 walk_at "rk"
 refine ⟨hp, fun r1 M1 a1 b1 f1 => ⟨f1.1, fun r2 M2 a2 b2 f2 => ?_⟩⟩
 walk_at "hd"
 walk_at "rk"
 refine ⟨f2.1, fun s1 M3 c1 d1 f3 => ⟨f3.1, fun s2 M4 c2 d2 f4 => ?_⟩⟩
 walk_at "hd"
 walk_at "rk"
 refine ⟨f4.1, fun th M5 t0 t1 f5 => ?_⟩
 walk_at "hd"
 walk_at "rk"
 intro q hq
 walk_at "hd"
 walk_at "rk"
 subst_vars
 walk_at "rk"
 refine h [⟨r1, r2, r1 + 3 + s1, r2 + th⟩, ⟨r1 + 3 + s1 - th, r2, r1 + 3 + s1, r2 + 3 + s2⟩, ⟨r1, r2 + 3 + s2 - th, r1 + 3 + s1, r2 + 3 + s2⟩, ⟨r1, r2, r1 + th, r2 + 3 + s2⟩] _ ⟨by simp, by simp, Zfa fun b hb => ?_⟩ (f5.1.put (f5.1.ne hq))
 simp only [List.mem_cons, List.not_mem_nil, or_false] at hb
 rcases hb with rfl | rfl | rfl | rfl
 all_goals (dsimp only; omega)
theorem Pl (T : Tx K mg) : ZD P w K mg base CX0 2 T.Mj T.OD ["_law_pen_here", "_law_box_here"] (lift K Nb) := by
 have G_draw : ZD P w K mg base CX0 1 T.V2 T.V5 ["_law_pen_here", "_law_many"] (lift K V9) := Vv T
 refine okD T.KY.F Wj (fun xs M Φ h => by obtain ⟨_, _, rfl, _⟩ := Zx h; rfl) fun cdv A outer s H E hr => ⟨_, (Zf (Zv 2 Wj.nd (QP Zd))
 (Zf (Zv 3 Wj.nd (QP Zd))
 (Zf (Vg rfl T.Q6 (Za Zc Zd) (Zl 4 Wj.nd) (Zf (Zv 5 Wj.nd (Zk (Yb rfl) rfl T.KG VE (Za Zc (Za (Zs Qa (Zg (Zg (Zb 1) Zc) (Zb 4)) Zc) Zd))))
 (Zf (Zv 6 Wj.nd (Zs ZE (Zb 5) (Zh G_draw (hr.mono (by first | decide | omega)) rfl T.Zo.m T.Zo.F.kp T.Zo.b Zp (Za (Zb 0) (Za (Zs ZE (Zs Qa (Zk (Ve rfl) rfl T.Yj JE (Za Zc (Za (Zs ZE (Zg (Zg (Zb 1) Zc) (Zb 4)) Zc) Zd))) (Zb 5)) Zc) Zd)))))
 (Zf (Va (Jx (Zb 2) (Zk (Yb rfl) rfl T.KG VE (Za Zc (Za (Zs Qa (Zb 6) (Zg (QA (Za Zc (Za Zc (Za Zc (Za Zc (Za Zc Zd)))))) (Zh G_draw (hr.mono (by first | decide | omega)) rfl T.Zo.m T.Zo.F.kp T.Zo.b Zp (Za (Zb 0) (Za Zc Zd))))) Zd)))))
 (Zi (Va (Jx (Zb 3) (Zk (Ve rfl) rfl T.Yj JE (Za Zc (Za (Zs ZE (Zb 6) (Zg (QA (Za Zc (Za Zc (Za Zc (Za Zc (Za Zc Zd)))))) (Zh G_draw (hr.mono (by first | decide | omega)) rfl T.Zo.m T.Zo.F.kp T.Zo.b Zp (Za (Zb 0) (Za Zc Zd))))) Zd))))))))) PassesOwn.never rfl)
 (Zi (Zm (Zn (Za (QW QF rfl T.JW Q4 (Za (Zb 2) Zd)) (Za (QW QF rfl T.JW Q4 (Za (Zb 3) Zd)) Zd)))))))), fun xs M Φ h => ?_⟩
 replace h := Zx h
 obtain ⟨x1, x2, rfl, h⟩ := h
 replace h := Jf h
 obtain ⟨p, rfl, h⟩ := h
 replace h := ZK h
 obtain ⟨b, rfl, hb, hp, h⟩ := h
 have ok := ZG.mp hb.1
 have hb2 := hb.2
 walk_at "hd"
 walk_at "rk"
 intro q1 hq1
 walk_at "hd"
 walk_at "rk"
 intro q2 hq2
 have n1 : q1 ≠ p := Ne.symm (hp.ne hq1)
 have n12 : q2 ≠ q1 := fresh_ne hq2
 have hq2' : M q2 = none := (Qy n12).symm.trans hq2
 have n2 : q2 ≠ p := Ne.symm (hp.ne hq2')
 walk_at "hd"
 walk_at "rk"
 refine ⟨⟨by decide, by decide⟩, fun j Δ M2 => ∃ (k4 k5 k6 : Option DV) (bs es : List Int), Δ = [some (.own p), some (.dat (bD b)), some (.own q1), some (.own q2), k4, k5, k6] ∧ bs.length = j ∧ es.length = j ∧
  (∀ (i : Nat) (a b : Int), bs[i]? = some a → es[i]? = some b → 0 ≤ a ∧ a ≤ b ∧ b ≤ 11) ∧ M2 q1 = some (.lst (bs.map PyData.int)) ∧ M2 q2 = some (.lst (es.map PyData.int)) ∧ Fr p M M2,
  ⟨none, none, none, [], [], rfl, rfl, rfl, fun i a b ha => (nomatch ha), by rw [Qy (Ne.symm n12), ZU]; rfl, ZU, Fr.new (Fr.new (Fr.refl hp) hq1 n1) hq2' n2⟩, ?_, ?_⟩
 ·rintro j Δ M2 hj ⟨k4, k5, k6, bs, es, rfl, l1, l2, hbs, h1, h2, hF⟩
  obtain ⟨lo, hi, hlo, e1, e2⟩ := Zge (x := b.x) (y := b.y) (X := b.X) (Y := b.Y) hj
  have hlo' : 0 ≤ lo ∧ lo ≤ hi ∧ hi ≤ 11 := by
   rcases hlo with ⟨rfl, rfl⟩ | ⟨rfl, rfl⟩ <;> omega
  walk_at "hd"
  walk_at "rk"
  simp only [e1]
  walk_at "rk"
  walk_at "hd"
  walk_at "rk"
  simp only [e2]
  walk_at "rk"
  refine ⟨by omega, hF.1, fun r M3 r0 r1 f3 => ?_⟩
  have g1 := f3.own h1 n1
  have g2 := f3.own h2 n2
  walk_at "hd"
  walk_at "rk"
  simp only [g1]
  walk_at "rk"
  refine ⟨f3.1, fun r2 M4 a2 b2 f4 => tab (l := [0, 0, 1, 2, 5]) (fun w => 0 ≤ w) a2 (by simp only [List.length_cons, List.length_nil]; omega) (by decide) fun w1 c1 => ?_⟩
  have g3 := f4.own g1 n1
  have g4 := f4.own g2 n2
  walk_at "rk"
  simp only [g3]
  walk_at "rk"
  refine ⟨by rw [List.length_map]; omega, ?_⟩
  subst_vars
  walk_at "rk"
  simp only [Qy n12, g4]
  walk_at "rk"
  refine ⟨f4.1.put (Ne.symm n1), fun r3 M5 a3 b3 f5 => tab (l := [0, 1, 2, 3, 6]) (fun w => 0 ≤ w) a3 (by simp only [List.length_cons, List.length_nil]; omega) (by decide) fun w2 c2 => ?_⟩
  have g5 := f5.own ZU n1
  have g6 := f5.own ((Qy n12).trans g4) n2
  walk_at "rk"
  simp only [g6]
  walk_at "rk"
  refine ⟨by rw [List.length_map]; omega, _, _, _, bs ++ [max 0 ((max 0 (lo - 1) + r) - w1)], es ++ [min 11 ((max 0 (lo - 1) + r) + w2)], rfl, by rw [List.length_append]; rfl, by rw [List.length_append, l2]; rfl, ?_, ?_, ?_, ?_⟩
  ·exact ME (R := fun a b => 0 ≤ a ∧ a ≤ b ∧ b ≤ 11) l2.symm hbs (by omega)
  ·rw [Qy (Ne.symm n12), g5, List.map_append]
   rfl
  ·rw [List.map_append]
   rfl
  ·exact Fr.new ((Fr.new ((hF.trans f3).trans f4) hq1 n1).trans f5) hq2' n2
 ·rintro Δ M2 ⟨k4, k5, k6, bs, es, rfl, l1, l2, hbs, h1, h2, hF⟩
  subst_vars
  walk_at "rk"
  obtain ⟨a, b, rfl⟩ := BM l1
  obtain ⟨c, d, rfl⟩ := BM l2
  have k0 := hbs 0 a c rfl rfl
  have k1 := hbs 1 b d rfl rfl
  simp only [h1, h2]
  walk_at "rk"
  exact h ⟨a, b, c, d⟩ M2 ⟨ZG.mpr (by dsimp only; omega), by dsimp only; omega⟩ hF
theorem MT (T : Tx K mg) : ZD P w K mg base CX0 3 T.Bu T.Br ["_law_pen_here"] (lift K GB) := by
 have G_draw : ZD P w K mg base CX0 1 T.V2 T.V5 ["_law_pen_here", "_law_many"] (lift K V9) := Vv T
 have G_hole : ZD P w K mg base CX0 2 T.FJ T.Fw ["_law_pen_here"] (lift K GB) := T1 T
 have G_box : ZD P w K mg base CX0 2 T.Mj T.OD ["_law_pen_here", "_law_box_here"] (lift K Nb) := Pl T
 refine okD T.Uo.F VR (fun xs M Φ h => by obtain ⟨_, rfl, _⟩ := Qn h; rfl) fun cdv A outer s H E hr => ⟨_, (Zf (Zv 1 VR.nd (Zh G_draw (hr.mono (by first | decide | omega)) rfl T.Zo.m T.Zo.F.kp T.Zo.b Zp (Za (Zb 0) (Za Zc Zd))))
 (Zf (ZV (Zz (Ja hr) (Zb 1) Zc) (Zi (Zm (Zh G_hole (hr.mono (by first | decide | omega)) rfl T.Cy.m T.Cy.F.kp T.Cy.b Zp (Za (Zb 0) Zd)))) Zw)
 (Zf (Zv 2 VR.nd (QP (Za (Zh G_box (hr.mono (by first | decide | omega)) rfl T.KY.m T.KY.F.kp T.KY.b Zp (Za (Zb 0) (Za (Zn (Za (Zn (Za Zc (Za Zc Zd))) (Za (Zn (Za Zc (Za Zc Zd))) Zd))) Zd))) Zd)))
 (Zf (ZV (Zz (Ja hr) (Zb 1) Zc) (Zf (Jb (Zg (Zb 2) Zc) (Vk (n := 2) rfl (Zy (Zl 4 VR.nd) (Zy (Zl 5 VR.nd) Ql))))
 (Zi (Zm (Zs Kk (Zb 2) (QA (Za (Zn (Za (Zn (Za (Zk (Ve rfl) rfl T.Yj JE (Za Zc (Za (Zs ZE (Zg (Zb 5) Zc) Zc) Zd))) (Za (Zg (Zb 4) Zc) Zd))) (Za (Zn (Za (Zk (Ve rfl) rfl T.Yj JE (Za Zc (Za (Zs ZE (Zs ZE (Zg (Zb 5) Zc) Zc) (Zh G_draw (hr.mono (by first | decide | omega)) rfl T.Zo.m T.Zo.F.kp T.Zo.b Zp (Za (Zb 0) (Za Zc Zd)))) Zd))) (Za (Zg (Zb 5) Zc) Zd))) Zd))) Zd)))))) Zw)
 (Zf (Vg rfl T.Q6 (Za (Zg (QA (Za Zc (Za Zc (Za Zc (Za Zc (Za Zc (Za Zc Zd))))))) (Zh G_draw (hr.mono (by first | decide | omega)) rfl T.Zo.m T.Zo.F.kp T.Zo.b Zp (Za (Zb 0) (Za Zc Zd)))) Zd) (Zl 3 VR.nd) (Zi (Va (Jx (Zb 2) (Zh G_box (hr.mono (by first | decide | omega)) rfl T.KY.m T.KY.F.kp T.KY.b Zp (Za (Zb 0) (Za (Zg (Zb 2) (CN Zc)) Zd)))))) PassesOwn.never rfl)
 (Zi (Zm (DB (Zb 2))))))))), fun xs M Φ h => ?_⟩
 replace h := Qn h
 obtain ⟨x1, rfl, h⟩ := h
 replace h := Jf h
 obtain ⟨p, rfl, hp, h⟩ := h
 walk_at "hd"
 walk_at "rk"
 refine ⟨hp, fun r1 M1 a1 b1 f1 => ?_⟩
 walk_at "hd"
 walk_at "rk"
 refine Zj (fun h0 => ⟨f1.1, h⟩) fun h0 => ?_
 walk_at "hd"
 walk_at "rk"
 refine ⟨⟨rfl, by decide, by decide⟩, f1.1, fun b M2 hb f2 q hq => ?_⟩
 have n1 : p ≠ q := f2.1.ne hq
 walk_at "hd"
 walk_at "rk"
 have ok := ZG.mp hb.1
 have hb2 := hb.2
 refine Zj (fun h1 => ?_) fun h1 => ?_
 ·refine ⟨f2.1.put n1, fun r2 M3 a2 b2 f3 => ?_⟩
  simp only [f3.own ZU (Ne.symm n1)]
  walk_at "rk"
  refine h [b, ⟨min 11 (b.X + 1), b.y, min 11 (b.X + 1 + r2), b.Y⟩] M3 ⟨by simp, by simp, Zfa fun c hc => ?_⟩ f3.1
  simp only [List.mem_cons, List.not_mem_nil, or_false] at hc
  rcases hc with rfl | rfl
  ·exact ⟨ok.1, ok.2, hb2⟩
  ·dsimp only
   omega
 ·walk_at "hd"
  walk_at "rk"
  refine ⟨f2.1.put n1, fun r2 M3 a2 b2 f3 => tab (l := [0, 1, 1, 2, 2, 5]) (fun w => 0 ≤ w ∧ w ≤ 5) a2 (by simp only [List.length_cons, List.length_nil]; omega) (by decide) fun m hm => ?_⟩
  walk_at "rk"
  refine ⟨⟨by omega, by omega⟩, fun i Δ M' => ∃ (cs : List B4) (b : B4) (k3 k4 k5 : Option DV), Δ = [some (.own p), some (.dat (.int r1)), some (.own q), k3, k4, k5] ∧ cs.length = i ∧ (∀ c ∈ cs ++ [b], Cel c) ∧ M' q = some (.lst (cs.map bD ++ [bD b])) ∧ Pen M' p,
    ⟨[], b, _, _, _, rfl, rfl, fun c hc => by rw [List.mem_singleton.mp hc]; exact hb, f3.own ZU (Ne.symm n1), f3.1⟩, ?_, ?_⟩
  ·rintro i Δ M' hi ⟨cs, b, k3, k4, k5, rfl, hl, hcs, hq', hP⟩
   walk_at "rk"
   simp only [hq']
   walk_at "rk"
   refine ⟨hcs b (List.mem_append_right _ (List.mem_singleton.mpr rfl)), hP, fun c' M4 hc' f4 => ?_⟩
   simp only [f4.own hq' (Ne.symm n1)]
   walk_at "rk"
   refine ⟨by rw [List.length_append, List.length_map, List.length_singleton]; omega, cs ++ [b], c', _, _, _, rfl, by rw [List.length_append, hl]; rfl, fun z hz => ?_, by rw [List.map_append]; rfl, f4.1.put n1⟩
   rcases List.mem_append.mp hz with hz | hz
   ·exact hcs z hz
   ·rw [List.mem_singleton.mp hz]
    exact hc'
  ·rintro Δ M' ⟨cs, b, k3, k4, k5, rfl, hl, hcs, hq', hP⟩
   subst_vars
   walk_at "rk"
   simp only [hq']
   walk_at "rk"
   rw [show cs.map bD ++ [bD b] = (cs ++ [b]).map bD by rw [List.map_append]; rfl]
   exact h _ _ ⟨by rw [List.length_append, List.length_singleton]; omega, by rw [List.length_append, List.length_singleton]; omega, hcs⟩ (hP.del n1)
theorem D3 (T : Tx K mg) : ZD P w K mg base CX0 2 T.Ki T.X3 ["_law_pen_here"] (lift K UH) := by
 have G_draw : ZD P w K mg base CX0 1 T.V2 T.V5 ["_law_pen_here", "_law_many"] (lift K V9) := Vv T
 refine okD T.Yq.F Y4 (fun xs M Φ h => by obtain ⟨_, rfl, _⟩ := Qn h; rfl) fun cdv A outer s H E hr => ⟨_, (Zf (Zv 1 Y4.nd (Zg (QA (Za Zc (Za Zc (Za Zc (Za Zc (Za (Zs ZE Zc (Zh G_draw (hr.mono (by first | decide | omega)) rfl T.Zo.m T.Zo.F.kp T.Zo.b Zp (Za (Zb 0) (Za (Zs Ww Zc Zc) Zd)))) (Za Zc Zd))))))) (Zh G_draw (hr.mono (by first | decide | omega)) rfl T.Zo.m T.Zo.F.kp T.Zo.b Zp (Za (Zb 0) (Za Zc Zd)))))
 (Zf (VW 2 false Y4.nd (ZH (sc := Ze Jv) (XN := ["_law_pen_here", "_law_times", "_law_begins"]) (N := ["_law_way", "_law_pen_here"]) (ix := [none, some 0]) rfl rfl (by decide +kernel)) (VJ rfl T.Q6 (Za Zc Zd)) (fun C ex s H => (Zl 0 (show List.Nodup (["_law_way", "_law_pen_here"] : List Str) by decide +kernel))) (fun C ex s H => Z0) (fun C ex s H => (Zg (QA (Za Zc (Za (Zs Qa (Zh G_draw (hr.mono (by first | decide | omega)) rfl T.Zo.m T.Zo.F.kp T.Zo.b Zp (Za (Zb 1) (Za (Zs Ww Zc Zc) Zd))) (Zs Vm Zc (Zs Ww Zc Zc))) Zd))) (Zh G_draw (hr.mono (by first | decide | omega)) rfl T.Zo.m T.Zo.F.kp T.Zo.b Zp (Za (Zb 1) (Za Zc Zd))))) rfl)
 (Zi (Zm (Zn (Za (Zb 1) (Za (Zg (Zb 2) Zc) (Za (Zg (Zb 2) Zc) Zd)))))))), fun xs M Φ h => ?_⟩
 replace h := Qn h
 obtain ⟨x1, rfl, h⟩ := h
 replace h := Jf h
 obtain ⟨p, rfl, hp, h⟩ := h
 walk_at "hd"
 walk_at "rk"
 refine ⟨T7 _ (by decide), hp, fun r1 M1 a1 b1 f1 => ⟨f1.1, fun r2 M2 a2 b2 f2 => tab (l := [1, 1, 2, 3, 1 + r1, 1]) (fun t => 1 ≤ t ∧ t ≤ 10 ^ 10) a2 (by simp only [List.length_cons, List.length_nil]; omega) (fun w hw => ?_) fun t ht => ?_⟩⟩
 ·simp only [List.mem_cons, List.not_mem_nil, or_false] at hw
  omega
 walk_at "hd"
 walk_at "rk"
 have one : ∀ (M : Mp) (Q : PyData → Mp → Prop), Pen M p → (∀ w M', (-(10 ^ 12) ≤ w ∧ w ≤ 10 ^ 12) → Fr p M M' → Q (.int w) M') → Zax 10 12 ∧ Pen M p ∧ ∀ r M', 0 ≤ r → r < 1000000000000 → Fr p M M' → Zax 10 11 ∧ T5 5 100000000000 ∧ Pen M' p ∧ ∀ r' M'', 0 ≤ r' → r' < 2 → Fr p M' M'' → KR [.int 0, .int (r - 500000000000)] r' fun d => Q d M'' := fun M Q hP k =>
  ⟨T7 _ (by decide), hP, fun r M' a b f => ⟨T7 _ (by decide), .inl (by decide), f.1, fun r' M'' a' b' f' => tab (l := [0, r - 500000000000]) (fun w => -(10 ^ 12) ≤ w ∧ w ≤ 10 ^ 12) a' (by simp only [List.length_cons, List.length_nil]; omega) (fun w hw => by
   simp only [List.mem_cons, List.not_mem_nil, or_false] at hw
   omega) fun w hw => k w M'' hw (f.trans f')⟩⟩
 refine ⟨⟨by decide, by decide⟩, one M2 _ f2.1 fun w M3 hw f3 => one M3 _ f3.1 fun w' M4 hw' f4 => ?_⟩
 subst_vars
 walk_at "rk"
 exact h t w w' M4 ⟨ht, hw, hw'⟩ f4.1
theorem SX (T : Tx K mg) : ZD P w K mg base CX0 1 T.HE T.HM ["_law_boxes_here", "_law_frame_here"] (lift K Fi) := by
 refine okG T.DH.F Vz (fun xs M Φ h => by obtain ⟨_, _, rfl, _⟩ := Zx h; rfl) fun cdv A outer s H E hr => ⟨_, (Zf (Jb (Zb 1) (Vk (n := 3) rfl (Zy (Zl 3 Vz.nd) (Zy (Zl 4 Vz.nd) (Zy (Zl 5 Vz.nd) Ql)))))
 (Zf (Zv 2 Vz.nd (QP Zd))
 (Zf (BY (Zb 0) (Vk (n := 2) rfl (Zy (Zl 6 Vz.nd) (Zy (Zl 7 Vz.nd) Ql))) (Zf (Zv 8 Vz.nd (Zn (Za (Zs ZE (Zs Vm (Zg (Zb 6) Zc) (Zb 3)) (Zb 4)) (Za (Zs ZE (Zs Vm (Zg (Zb 6) Zc) (Zb 3)) (Zb 5)) Zd))))
 (Zi (Va (Jx (Zb 2) (Zn (Za (Zb 8) (Za (Zn (Za (Zs ZE (Zs Qa (Zs ZE (Zs Vm (Zg (Zb 7) Zc) (Zb 3)) (Zb 3)) Zc) (Zb 4)) (Za (Zs ZE (Zs Qa (Zs ZE (Zs Vm (Zg (Zb 7) Zc) (Zb 3)) (Zb 3)) Zc) (Zb 5)) Zd))) Zd))))))) PassesOwn.never rfl)
 (Zi (Zm (QW QF rfl T.JW Q4 (Za (Zb 2) Zd))))))), fun xs M Φ h => ?_⟩
 replace h := Zx h
 obtain ⟨x1, x2, rfl, h⟩ := h
 replace h := E8 h
 obtain ⟨bs, rfl, h⟩ := h
 replace h := Fl h
 obtain ⟨f, ox, oy, rfl, hs, h⟩ := h
 walk_at "hd"
 walk_at "rk"
 walk_at "hd"
 walk_at "rk"
 intro q hq
 walk_at "hd"
 walk_at "rk"
 refine ⟨fun i Δ M' => ∃ k6 k7 k8, Δ = [some (.dat (.list (bs.map bD))), some (.dat (.tuple [.int f, .int ox, .int oy])), some (.own q), some (.dat (.int f)), some (.dat (.int ox)), some (.dat (.int oy)), k6, k7, k8] ∧ M' = Z8 M q (.lst (((bs.take i).map (Vn f ox oy)).map bD)), ⟨none, none, none, rfl, rfl⟩, ?_, ?_⟩
 ·rintro i d Δ M' hd ⟨k6, k7, k8, rfl, rfl⟩
  obtain ⟨b, eb, rfl⟩ := Z1 hd
  have hb := hs.2.2 _ (List.mem_of_getElem? eb)
  have ok := ZG.mp hb.1
  have hb2 := hb.2
  walk_at "rk"
  refine ⟨.inl (by omega), .inl (by omega), .inl (by omega), .inl (by omega), by rw [List.length_map, List.length_map, List.length_take]; have := hs.2.1; omega, _, _, _, rfl, ?_⟩
  rw [← take_snoc (Vn f ox oy) eb, List.map_append]
  rfl
 ·rintro Δ M' ⟨k6, k7, k8, rfl, rfl⟩
  rw [List.length_map, List.take_length]
  subst_vars
  walk_at "rk"
  exact ZaT hq h
theorem Sh (T : Tx K mg) : ZD P w K mg base CX0 2 T.HD T.Fp ["_law_pen_here", "_law_frame_here"] (lift K Bq) := by
 have G_draw : ZD P w K mg base CX0 1 T.V2 T.V5 ["_law_pen_here", "_law_many"] (lift K V9) := Vv T
 refine okD T.C0.F UN (fun xs M Φ h => by obtain ⟨_, _, rfl, _⟩ := Zx h; rfl) fun cdv A outer s H E hr => ⟨_, (Zf (Zv 2 UN.nd (QP Zd))
 (Zf (Vg rfl T.Q6 (Za Zc Zd) (Zl 3 UN.nd) (Zf (Zv 4 UN.nd (Zs ZE (Zs Vm (Zs Qa (Zh G_draw (hr.mono (by first | decide | omega)) rfl T.Zo.m T.Zo.F.kp T.Zo.b Zp (Za (Zb 0) (Za Zc Zd))) Zc) (Zg (Zb 1) Zc)) (Zg (Zb 1) (Zs ZE Zc (Zb 3)))))
 (Zi (Va (Jx (Zb 2) (Zs ZE (Zb 4) (Zg (QA (Za Zc (Za (Zs Qa (Zg (Zb 1) Zc) Zc) (Za (Zh G_draw (hr.mono (by first | decide | omega)) rfl T.Zo.m T.Zo.F.kp T.Zo.b Zp (Za (Zb 0) (Za (Zg (Zb 1) Zc) Zd))) Zd)))) (Zh G_draw (hr.mono (by first | decide | omega)) rfl T.Zo.m T.Zo.F.kp T.Zo.b Zp (Za (Zb 0) (Za Zc Zd))))))))) PassesOwn.never rfl)
 (Zf (ZV (Zz (Ja hr) (Zh G_draw (hr.mono (by first | decide | omega)) rfl T.Zo.m T.Zo.F.kp T.Zo.b Zp (Za (Zb 0) (Za Zc Zd))) Zc) (Zi (Jb (Zs ZE (Zs Qa (Zh G_draw (hr.mono (by first | decide | omega)) rfl T.Zo.m T.Zo.F.kp T.Zo.b Zp (Za (Zb 0) (Za (Zs Qa (Zs Vm Zc (Zs Ww Zc Zc)) Zc) Zd))) (Zs Ww Zc Zc)) Zc) (Hf (Zb 2) (Zh G_draw (hr.mono (by first | decide | omega)) rfl T.Zo.m T.Zo.F.kp T.Zo.b Zp (Za (Zb 0) (Za Zc Zd)))))) Zw)
 (Zi (Zm (QW QF rfl T.JW Q4 (Za (Zb 2) Zd))))))), fun xs M Φ h => ?_⟩
 replace h := Zx h
 obtain ⟨x1, x2, rfl, h⟩ := h
 replace h := Jf h
 obtain ⟨p, rfl, h⟩ := h
 replace h := Fl h
 obtain ⟨t, ox, oy, rfl, hf, hp, h⟩ := h
 have hf' := hf
 unfold Frm at hf'
 walk_at "hd"
 walk_at "rk"
 intro q hq
 have n1 : p ≠ q := hp.ne hq
 walk_at "hd"
 walk_at "rk"
 refine ⟨⟨by decide, by decide⟩, fun j Δ M2 => ∃ (k4 k5 : Option DV) (ns : List Int), Δ = [some (.own p), some (.dat (.tuple [.int t, .int ox, .int oy])), some (.own q), k4, k5] ∧ ns.length = j ∧ M2 q = some (.lst (ns.map PyData.int)) ∧ Fr p M M2,
  ⟨none, none, [], rfl, rfl, ZU, Fr.new (Fr.refl hp) hq (Ne.symm n1)⟩, ?_, ?_⟩
 ·rintro j Δ M2 hj ⟨k4, k5, ns, rfl, hl, hq2, hF⟩
  obtain ⟨o, ho, eo⟩ := Zf3 (t := t) (ox := ox) (oy := oy) hj
  walk_at "hd"
  walk_at "rk"
  refine ⟨hF.1, fun r1 M3 a1 b1 f3 => ⟨.inl (by omega), ?_⟩⟩
  have g3 := f3.own hq2 (Ne.symm n1)
  simp only [eo]
  walk_at "rk"
  subst_vars
  walk_at "rk"
  simp only [g3]
  walk_at "rk"
  refine ⟨by omega, f3.1, fun r2 M4 a2 b2 f4 => ⟨f4.1, fun r3 M5 a3 b3 f5 => tab (l := [0, t - 1, r2]) (fun _ => True) a3 (by simp only [List.length_cons, List.length_nil]; omega) (fun _ _ => trivial) fun w _ => ?_⟩⟩
  have g5 := f5.own (f4.own g3 (Ne.symm n1)) (Ne.symm n1)
  walk_at "rk"
  simp only [g5]
  walk_at "rk"
  exact ⟨by rw [List.length_map]; omega, _, _, ns ++ [(r1 - 2) * t + o + w], rfl, by rw [List.length_append]; rfl, by rw [List.map_append]; rfl, Fr.new (((hF.trans f3).trans f4).trans f5) hq (Ne.symm n1)⟩
 ·rintro Δ M2 ⟨k4, k5, ns, rfl, hl, hq2, hF⟩
  obtain ⟨a, b, rfl⟩ := BM hl
  walk_at "hd"
  walk_at "rk"
  refine ⟨hF.1, fun r1 M3 a1 b1 f3 => ?_⟩
  have g3 := f3.own hq2 (Ne.symm n1)
  refine Zj (fun h0 => ?_) fun h0 => ?_
  ·refine ⟨T7 _ (by decide), .inl (by decide), f3.1, fun r2 M4 a2 b2 f4 => ⟨T7 _ (by decide), f4.1, fun r4 M6 a4 b4 f6 => ?_⟩⟩
   have g6 := f6.own (f4.own g3 (Ne.symm n1)) (Ne.symm n1)
   simp only [g6]
   walk_at "rk"
   have two : r4 = 0 ∨ r4 = 1 := by omega
   rcases two with rfl | rfl
   ·refine ⟨0, rfl, ?_⟩
    subst_vars
    walk_at "rk"
    exact h _ b _ (Fr.new (((hF.trans f3).trans f4).trans f6) hq (Ne.symm n1))
   ·refine ⟨1, rfl, ?_⟩
    subst_vars
    walk_at "rk"
    exact h a _ _ (Fr.new (((hF.trans f3).trans f4).trans f6) hq (Ne.symm n1))
  ·subst_vars
   walk_at "rk"
   simp only [g3]
   walk_at "rk"
   exact h a b _ (hF.trans f3)
theorem Oe (T : Tx K mg) : ZD P w K mg base CX0 1 T.Bx T.Cb ["_law_one", "_law_box_here"] (lift K Hm) := by
 refine okD T.Us.F UE (fun xs M Φ h => by obtain ⟨_, _, rfl, _⟩ := Zx h; rfl) fun cdv A outer s H E hr => ⟨_, (Zf (Jb (Zb 1) (Vk (n := 2) rfl (Zy (Zl 2 UE.nd) (Zy (Zl 3 UE.nd) Ql))))
 (Zf (ZV (DW.dt (Xa (Zz Xy (Zg (Zb 2) Zc) (Zg (Zg (Zb 0) Zc) Zc)) (YK (Zz Xy (Zg (Zb 2) Zc) (Zg (Zg (Zb 0) Zc) Zc))))) (Zi (Zm JD)) Zw)
 (Zi (Zm (VI (U5 Xt (Zg (Zb 3) Zc) (Zg (Zg (Zb 0) Zc) Zc)) (YM (U5 Xt (Zg (Zb 3) Zc) (Zg (Zg (Zb 0) Zc) Zc)))))))), fun xs M Φ h => ?_⟩
 replace h := Zx h
 obtain ⟨x1, x2, rfl, h⟩ := h
 replace h := ZK h
 obtain ⟨c, rfl, h⟩ := h
 replace h := ZK h
 obtain ⟨b, rfl, h⟩ := h
 unfold inB at h
 walk_at "hd"
 walk_at "rk"
 walk_at "hd"
 walk_at "rk"
 refine Zj (fun z => ?_) fun z => Zj (fun z1 => ?_) fun z1 => ?_
 ·rw [decide_eq_false (by omega)] at h
  exact h
 ·rw [decide_eq_false (by omega)] at h
  exact h
 ·subst_vars
  walk_at "rk"
  refine Zj (fun z2 => ?_) fun z2 => ?_
  ·rw [show decide (c.x ≤ b.x ∧ c.y ≤ b.y ∧ b.X ≤ c.X ∧ b.Y ≤ c.Y) = decide (b.Y ≤ c.Y) from decide_eq_decide.mpr (by omega)] at h
   exact h
  ·rw [decide_eq_false (by omega)] at h
   exact h
theorem YI (T : Tx K mg) : ZD P w K mg base CX0 1 T.Yd T.Yg ["_law_box_here", "_law_way", "_law_at"] (lift K Yk) := by
 refine okD T.Z6.F Uv (fun xs M Φ h => by obtain ⟨_, _, _, rfl, _⟩ := Z3 h; rfl) fun cdv A outer s H E hr => ⟨_, (Zf (Jb (Zb 0) (Vk (n := 2) rfl (Zy (Zl 3 Uv.nd) (Zy (Zl 4 Uv.nd) Ql))))
 (Zf (ZV (Zz (Ja hr) (Zb 1) Zc) (Zi (Zm (QA (Za (Zn (Za (Zb 3) (Za (Zn (Za (Zb 2) (Za (Zg (Zb 4) Zc) Zd))) Zd))) (Za (Zn (Za (Zn (Za (Zs ZE (Zb 2) Zc) (Za (Zg (Zb 3) Zc) Zd))) (Za (Zb 4) Zd))) Zd))))) Zw)
 (Zi (Zm (QA (Za (Zn (Za (Zb 3) (Za (Zn (Za (Zg (Zb 4) Zc) (Za (Zb 2) Zd))) Zd))) (Za (Zn (Za (Zn (Za (Zg (Zb 3) Zc) (Za (Zs ZE (Zb 2) Zc) Zd))) (Za (Zb 4) Zd))) Zd))))))), fun xs M Φ h => ?_⟩
 replace h := Z3 h
 obtain ⟨x1, x2, x3, rfl, h⟩ := h
 replace h := ZK h
 obtain ⟨b, rfl, h⟩ := h
 replace h := ZO h
 obtain ⟨i, rfl, h⟩ := h
 replace h := ZO h
 obtain ⟨a, rfl, hi, h⟩ := h
 unfold upB owB at h
 rcases hi with rfl | rfl
 ·walk_at "hd"
  walk_at "rk"
  subst_vars
  walk_at "rk"
  exact h
 ·walk_at "hd"
  walk_at "rk"
  subst_vars
  walk_at "rk"
  subst_vars
  walk_at "rk"
  exact h
theorem Di (T : Tx K mg) : ZD P w K mg base CX0 1 T.WW T.WY ["_law_thing"] (lift K Zdq) := by
 refine okD T.JU.F MN (fun xs M Φ h => by obtain ⟨_, rfl, _⟩ := Qn h; rfl) fun cdv A outer s H E hr => ⟨_, (Zi (Zm (VI (Zk (K2 (HU _)) rfl T.QL Qt (Za (Zb 0) (Za (Eh rfl T.Za6 PQ) Zd))) (YM (Pm (Zk (K2 (Dq _)) rfl T.QL Qt (Za (Zb 0) (Za (Eh rfl T.PF HP) Zd)))))))), fun xs M Φ h => ?_⟩
 replace h := Qn h
 obtain ⟨x1, rfl, h⟩ := h
 replace h := QY h
 obtain ⟨d, rfl, h⟩ := h
 walk_at "rk"
 cases d <;> simpa [ZP, tyN, Z7] using h
theorem Ua (T : Tx K mg) : ZD P w K mg base CX0 2 T.Vu T.Vw ["_law_shape", "_law_box_here", "_law_paper"] (lift K L1) := by
 have G_l_has : ZD P w K mg base CX0 1 T.Bx T.Cb ["_law_one", "_law_box_here"] (lift K Hm) := Oe T
 have G_whole : ZD P w K mg base CX0 1 T.WW T.WY ["_law_thing"] (lift K Zdq) := Di T
 refine okD T.JP.F WM (fun xs M Φ h => by obtain ⟨_, _, _, rfl, _⟩ := Z3 h; rfl) fun cdv A outer s H E hr => ⟨_, (Zf (ZV (DW.dt (Xa (Zz (Fg hr) (Zg (Zb 2) Zc) QM) (Xa (Vj (Jc (Zh G_whole (hr.mono (by first | decide | omega)) rfl T.JU.m T.JU.F.kp T.JU.b Zp (Za (Zg (Zb 2) Zc) Zd)))) (YK (Vj (WC Xt Xy Zc (Zg (Zb 2) Zc) (Zk Qw rfl T.JH Qx (Za (Zb 0) Zd)))))))) (Zi (Zm JD)) Zw)
 (Zi (Zm (Zh G_l_has (hr.mono (by first | decide | omega)) rfl T.Us.m T.Us.F.kp T.Us.b Zp (Za (Zg (Zb 0) (Zg (Zb 2) Zc)) (Za (Zb 1) Zd)))))), fun xs M Φ h => ?_⟩
 replace h := Z3 h
 obtain ⟨x1, x2, x3, rfl, h⟩ := h
 replace h := ZW h
 obtain ⟨bs, rfl, h⟩ := h
 replace h := ZK h
 obtain ⟨b, rfl, h⟩ := h
 replace h := YE h
 obtain ⟨ds, rfl, x, k, rfl, ⟨hl, hb⟩, h⟩ := h
 walk_at "hd"
 walk_at "rk"
 refine Up hl VY ?_
 cases q : isS x (Str.ofString "box") with
 | false =>
  rw [q] at h
  walk_at "rk"
  simpa using h
 | true =>
  rw [q, Bool.true_and] at h
  walk_at "rk"
  cases k with
  | int k =>
   have el : X8 bs b (.int k) = (DJ bs k && (match bs[k.toNat]? with | some c => allB c b | none => false)) := rfl
   rw [el] at h
   unfold Z7
   walk_at "rk"
   rw [List.length_map]
   unfold DJ at h
   refine Zj (fun z0 => ?_) fun z0 => ?_
   ·by_cases z1 : k < bs.length
    ·rw [decide_eq_true z0, decide_eq_true z1] at h
     rw [decide_eq_true z1]
     subst_vars
     walk_at "rk"
     obtain ⟨c, ec⟩ : ∃ c, bs[k.toNat]? = some c := ⟨_, List.getElem?_eq_getElem (by omega)⟩
     rw [ec] at h
     obtain ⟨j, rfl⟩ := Int.eq_ofNat_of_zero_le z0
     refine Q7 (d := bD c) (Vh (by rw [List.getElem?_map]; rw [Int.toNat_natCast] at ec; rw [ec]; rfl)) ?_
     walk_at "rk"
     rw [ZaV hb]
     simpa using h
    ·rw [decide_eq_false z1] at h
     rw [decide_eq_false z1]
     walk_at "rk"
     simpa using h
   ·rw [decide_eq_false z0] at h
    simpa using h
  | _ =>
   unfold Z7
   walk_at "rk"
   simpa [X8] using h
theorem NH (T : Tx K mg) : ZD P w K mg base CX0 3 T.B7 T.Cn ["_law_shape", "_law_box_here", "_law_thing"] (lift K (LO 26)) := by
 have G_parts : ZD P w K mg base CX0 1 T.Yd T.Yg ["_law_box_here", "_law_way", "_law_at"] (lift K Yk) := YI T
 have G_leaf_holds : ZD P w K mg base CX0 2 T.Vu T.Vw ["_law_shape", "_law_box_here", "_law_paper"] (lift K L1) := Ua T
 have G_whole : ZD P w K mg base CX0 1 T.WW T.WY ["_law_thing"] (lift K Zdq) := Di T
 refine okD T.UG.F JS (fun xs M Φ h => by obtain ⟨_, _, _, rfl, _⟩ := Z3 h; rfl) fun cdv A outer s H E hr => ⟨_, (Zf (Zv 3 JS.nd (QP (Za (Zn (Za (Zb 1) (Za (Zb 2) Zd))) Zd)))
 (Zf (Oi (Zz (Nd hr) (Zb 3) (QA Zd)) (Zf (Jb (ZcC (Zb 3)) (Vk (n := 2) rfl (Zy (Zl 4 JS.nd) (Zy (Zl 5 JS.nd) Ql))))
 (Zf (ZV (DW.dt (Xa (Vj (Jc (Zk (K2 (kit_tuple _)) rfl T.QL Qt (Za (Zb 5) (Za (Eh rfl T.JW Q4) Zd))))) (YK (Zz (Cs hr) (Zk Qw rfl T.JH Qx (Za (Zb 5) Zd)) (Zn (Za Zc (Za Zc Zd))))))) (Zi (Zm JD)) Zw)
 (Zi (ZV (Zz (Ja hr) (Zk Qw rfl T.JH Qx (Za (Zb 5) Zd)) Zc) (Zi (ZV (Vj (Jc (Zh G_leaf_holds (hr.mono (by first | decide | omega)) rfl T.JP.m T.JP.F.kp T.JP.b Zp (Za (Zb 0) (Za (Zb 4) (Za (Zb 5) Zd)))))) (Zi (Zm JD)) Zw)) (Zf (Jb (Lp (Zb 5) (Yc Zc) (Yc Zc)) (Vk (n := 2) rfl (Zy (Zl 7 JS.nd) (Zy (Zl 8 JS.nd) Ql))))
 (Zf (ZV (DW.dt (Xa (Zz (Fg hr) (Zg (Zb 5) Zc) QM) (Xa (Vj (Jc (Zh G_whole (hr.mono (by first | decide | omega)) rfl T.JU.m T.JU.F.kp T.JU.b Zp (Za (Zb 7) Zd)))) (Xa (Vj (Jc (Zh G_whole (hr.mono (by first | decide | omega)) rfl T.JU.m T.JU.F.kp T.JU.b Zp (Za (Zb 8) Zd)))) (YK (Zz (Cs hr) (Zb 7) (Zn (Za Zc (Za Zc Zd))))))))) (Zi (Zm JD)) Zw)
 (Zf (ZV (Vj (WC Xt Xy (Zg (Zg (Zb 4) Zc) (Zb 7)) (Zb 8) (Zg (Zg (Zb 4) Zc) (Zb 7)))) (Zi (Zm JD)) Zw)
 (Zf (Zv 6 JS.nd (Zh G_parts (hr.mono (by first | decide | omega)) rfl T.Z6.m T.Z6.F.kp T.Z6.b Zp (Za (Zb 4) (Za (Zb 7) (Za (Zb 8) Zd)))))
 (Zi (Zv 3 JS.nd (Zs Ng (Zb 3) (QA (Za (Zn (Za (Zg (Zb 6) Zc) (Za (Zg (Zb 5) Zc) Zd))) (Za (Zn (Za (Zg (Zb 6) Zc) (Za (Zg (Zb 5) Zc) Zd))) Zd)))))))))))))) PassesOwn.never)
 (Zi (Zm JD)))), fun xs M Φ h => ?_⟩
 replace h := Z3 h
 obtain ⟨x1, x2, x3, rfl, h⟩ := h
 replace h := ZW h
 obtain ⟨bs, rfl, h⟩ := h
 replace h := ZK h
 obtain ⟨b, rfl, h⟩ := h
 replace h := QY h
 obtain ⟨d, rfl, ⟨hp, hb, hn⟩, h⟩ := h
 walk_at "hd"
 walk_at "rk"
 intro q hq
 walk_at "hd"
 walk_at "rk"
 generalize hR : ZJ bs 26 b d = R at h
 refine ⟨ZeG bs b d M R, ⟨_, q, [(b, d)], _, _, _, _, _, rfl, ZU, hq, (Ext.refl M).new hq, ⟨⟨fun e he => ?_, ?_⟩, fun j e he => ?_⟩, rfl⟩, ?_⟩
 ·rw [List.mem_singleton.mp he]
  exact ⟨hb, hp⟩
 ·simp [hR]
 ·cases j with
  | zero => cases he; exact hp
  | succ j => cases he
 clear hR hp hb hn
 intro n Δ M1 hJ
 clear hq q
 obtain ⟨q, ws, x4, x5, x6, x7, x8, rfl, hM, hq, hE, ⟨hW, hD⟩, rfl⟩ := hJ
 walk_at "rk"
 rw [hM]
 walk_at "rk"
 rcases List.eq_nil_or_concat ws with rfl | ⟨ws, e, rfl⟩
 ·subst_vars
  walk_at "rk"
  simp only [List.isEmpty_nil, Bool.not_true, Bool.false_eq_true, if_false]
  have := hW.2
  simp only [List.all_nil] at this
  rw [← this] at h
  exact h _ hE
 ·rw [List.concat_eq_append] at hM hW hD ⊢
  have ne : (!(List.map wD (ws ++ [e])).isEmpty) = true := by simp
  rw [if_pos ne]
  refine ⟨ws.map wD, wD e, by rw [List.map_append]; rfl, ?_⟩
  obtain ⟨b', d'⟩ := e
  refine Zgp (x := bD b') (y := d') ?_
  have hl := hW.last.1
  have E1 : Ext M (Z8 M1 q (OO.lst (ws.map wD))) := hE.new hq
  cases d' with
  | tuple ds =>
   by_cases h2 : ds.length = 2
   ·obtain ⟨x, k, rfl⟩ := Gp h2
    have e : ZJ bs 26 b' (.tuple [x, k]) = (isS x (Str.ofString "box") && X8 bs b' k) := rfl
    walk_at "hd"
    walk_at "rk"
    refine ⟨rfl, ?_⟩
    subst_vars
    walk_at "rk"
    refine ⟨_, _, rfl, ⟨hl.2, hl.1⟩, ?_⟩
    rw [← e]
    cases hd : ZJ bs 26 b' (.tuple [x, k]) with
    | false =>
     rw [hW.no hd] at h
     walk_at "rk"
     exact h _ E1
    | true =>
     walk_at "rk"
     refine ⟨_, ?_, q, ws, _, _, _, _, _, rfl, ZU, hq, E1, ⟨hW.drop hd, hD.drop⟩, rfl⟩
     rw [C5]
     exact Nat.lt_add_of_pos_right (size_pos _)
   ·by_cases h5 : ds.length = 5
    ·obtain ⟨x, i, a, p, q', rfl⟩ := Kn h5
     have e : ZJ bs 26 b' (.tuple [x, i, a, p, q']) = (isS x (Str.ofString "cut") && (YB b' i a && (ZJ bs 25 (upD b' i a) p && ZJ bs 25 (owD b' i a) q'))) := rfl
     walk_at "hd"
     walk_at "rk"
     refine ⟨rfl, ?_⟩
     subst_vars
     refine Nc fun B hB => ?_
     walk_at "rk"
     subst hB
     walk_at "hd"
     walk_at "rk"
     refine ⟨by decide, ?_⟩
     rw [show DL.cutD [x, i, a, p, q'] (some 1) (some 3) = [i, a] from rfl]
     walk_at "rk"
     walk_at "hd"
     walk_at "rk"
     refine RI hl.2.1 VY ?_
     cases hx : isS x (Str.ofString "cut") with
     | false =>
      rw [hx, Bool.false_and] at e
      rw [hW.no e] at h
      walk_at "rk"
      exact h _ E1
     | true =>
      walk_at "rk"
      rw [hx, Bool.true_and] at e
      cases i with
      | int i =>
       cases a with
       | int a =>
        have hc : YB b' (.int i) (.int a) = YR b' i a := rfl
        rw [hc] at e
        have no : YR b' i a = false → Φ (.dat (.bool false)) (Z8 M1 q (OO.lst (ws.map wD))) := fun z => by
         rw [z, Bool.false_and] at e
         rw [hW.no e] at h
         exact h _ E1
        unfold Z7
        walk_at "rk"
        refine ⟨rfl, ?_⟩
        by_cases hi : i = 0 ∨ i = 1
        ·rw [show (decide (0 = i) || decide (1 = i)) = true by simp; omega]
         walk_at "rk"
         walk_at "hd"
         walk_at "rk"
         refine Q7 (d := .int (loB b' i)) (by rcases hi with rfl | rfl <;> rfl) ?_
         walk_at "rk"
         refine Zj (fun z0 => ?_) fun z0 => no (Bool.eq_false_iff.mpr fun y => z0 (Qr.mp y).2.1)
         refine Q7 (d := .int (hiB b' i)) (by rcases hi with rfl | rfl <;> rfl) ?_
         walk_at "rk"
         by_cases z1 : a < hiB b' i
         ·rw [decide_eq_true z1]
          have yes : YR b' i a = true := Qr.mpr ⟨hi, z0, z1⟩
          walk_at "rk"
          walk_at "hd"
          walk_at "rk"
          refine ⟨hi, ?_⟩
          subst_vars
          walk_at "rk"
          have hs := hW.split hx yes
          have hz := hD.split (b1 := upB b' i a) (b2 := owB b' i (a + 1))
          have hl2 := hD.len
          rw [List.length_append, List.length_singleton] at hl2
          refine ⟨by rw [List.length_map]; omega, fun r hr2 => ⟨_, Le _ _ _ _ _ _ _ _ _, r, _, _, _, _, _, _, rfl, ?_, E1.none hr2, E1.new (E1.none hr2), ⟨hs, hz⟩, rfl⟩⟩
          rw [ZU, List.map_append]
          rfl
         ·rw [decide_eq_false z1]
          walk_at "rk"
          exact no (Bool.eq_false_iff.mpr fun y => z1 (Qr.mp y).2.2)
        ·rw [show (decide (0 = i) || decide (1 = i)) = false by simp; omega]
         walk_at "rk"
         refine no (Bool.eq_false_iff.mpr fun y => ?_)
         have := (Qr.mp y).1
         omega
       | _ =>
        rw [hW.no (by rw [e]; rfl)] at h
        unfold Z7
        walk_at "rk"
        exact h _ E1
      | _ =>
       rw [hW.no (by rw [e]; rfl)] at h
       unfold Z7
       walk_at "rk"
       exact h _ E1
    ·have no := hW.no (Vo h2 h5)
     rw [no] at h
     walk_at "hd"
     walk_at "rk"
     refine ⟨rfl, ?_⟩
     rw [decide_eq_false (show ¬ (2 : Int) = ds.length by omega), decide_eq_false (show ¬ (5 : Int) = ds.length by omega)]
     exact h _ E1
  | _ =>
   have no := hW.no rfl
   rw [no] at h
   walk_at "hd"
   walk_at "rk"
   exact h _ E1
theorem Bl (T : Tx K mg) (n : Nat) : ZD P w K mg base CX0 (2 + n) T.Kt T.Kz ["_law_paper", "_law_box_here", "_law_part_here"] (lift K (Xi n)) := by
 refine Nat.rec (motive := fun n => ZD P w K mg base CX0 (2 + n) T.Kt T.Kz ["_law_paper", "_law_box_here", "_law_part_here"] (lift K (Xi n))) ?_ (fun n G_less => ?_) n
 ·exact U7 BX
 show ZD P w K mg base CX0 (2 + n + 1) T.Kt T.Kz ["_law_paper", "_law_box_here", "_law_part_here"] (lift K (Xi (n + 1)))
 have G_parts : ZD P w K mg base CX0 1 T.Yd T.Yg ["_law_box_here", "_law_way", "_law_at"] (lift K Yk) := YI T
 refine okD T.Z9.F Yi (fun xs M Φ h => by obtain ⟨_, _, _, rfl, _⟩ := Z3 h; rfl) fun cdv A outer s H E hr => ⟨_, (Zf (ZV (Zz (Ja hr) (Zk Qw rfl T.JH Qx (Za (Zb 0) Zd)) Zc) (Zi (Zm (Zb 0))) Zw)
 (Zf (Jb (We (Zb 0) (Yc Zc) (Yc Zc)) (Vk (n := 2) rfl (Zy (Zl 3 Yi.nd) (Zy (Zl 4 Yi.nd) Ql))))
 (Zf (Jb (Zh G_parts (hr.mono (by first | decide | omega)) rfl T.Z6.m T.Z6.F.kp T.Z6.b Zp (Za (Zb 1) (Za (Zb 3) (Za (Zb 4) Zd)))) (Gn (n := 2) rfl (Zy (Zl 5 Yi.nd) (Zy (Zl 6 Yi.nd) Ql))))
 (Zf (ZV (Zz Xt (Zg (Zg (Zb 2) Zc) (Zb 3)) (Zb 4)) (Zi (Zm (Zh G_less (hr.mono (by first | decide | omega)) rfl T.Z9.m T.Z9.F.kp T.Z9.b Zp (Za (Zg (Zb 0) Zc) (Za (Zb 5) (Za (Zb 2) Zd)))))) Zw)
 (Zf (ZV (Zz WI (Zg (Zg (Zb 2) Zc) (Zb 3)) (Zb 4)) (Zi (Zm (Zh G_less (hr.mono (by first | decide | omega)) rfl T.Z9.m T.Z9.F.kp T.Z9.b Zp (Za (Zg (Zb 0) Zc) (Za (Zb 6) (Za (Zb 2) Zd)))))) Zw)
 (Zf (Jb (Zh G_parts (hr.mono (by first | decide | omega)) rfl T.Z6.m T.Z6.F.kp T.Z6.b Zp (Za (Zb 2) (Za (Zb 3) (Za (Zb 4) Zd)))) (Gn (n := 2) rfl (Zy (Zl 7 Yi.nd) (Zy (Zl 8 Yi.nd) Ql))))
 (Zi (Zm (Zn (Za QM (Za (Zb 3) (Za (Zb 4) (Za (Zh G_less (hr.mono (by first | decide | omega)) rfl T.Z9.m T.Z9.F.kp T.Z9.b Zp (Za (Zg (Zb 0) Zc) (Za (Zb 5) (Za (Zb 7) Zd)))) (Za (Zh G_less (hr.mono (by first | decide | omega)) rfl T.Z9.m T.Z9.F.kp T.Z9.b Zp (Za (Zg (Zb 0) Zc) (Za (Zb 6) (Za (Zb 8) Zd)))) Zd)))))))))))))), fun xs M Φ h => ?_⟩
 replace h := Z3 h
 obtain ⟨x1, x2, x3, rfl, h⟩ := h
 obtain ⟨c, rfl, h⟩ := h
 replace h := ZK h
 obtain ⟨b, rfl, h⟩ := h
 replace h := ZK h
 obtain ⟨t, rfl, bs, ⟨hh, ⟨hi, ht⟩, hn⟩, h⟩ := h
 cases c with
 | box k =>
  unfold cvD
  walk_at "hd"
  walk_at "rk"
  exact h (.box k) (OJ hh hi ht) (Nat.le_refl _)
 | cut i a p q =>
  rw [Vd] at hn h
  obtain ⟨hw, hc, hp, hq⟩ := KQ hh
  obtain ⟨i1, i2, i3, i4⟩ := Zb3 (a := a) hw hi
  rw [show cvD (.cut i a p q) = .tuple [.str (Str.ofString "cut"), .int i, .int a, cvD p, cvD q] from rfl]
  walk_at "hd"
  walk_at "rk"
  walk_at "hd"
  walk_at "rk"
  rw [show DL.cutD [PyData.str (Str.ofString "cut"), PyData.int i, PyData.int a, cvD p, cvD q] (some 1) (some 3) = [PyData.int i, PyData.int a] from rfl]
  walk_at "rk"
  walk_at "hd"
  walk_at "rk"
  refine ⟨hw, ?_⟩
  walk_at "hd"
  walk_at "rk"
  rw [CQ hw]
  walk_at "rk"
  refine Zj (fun z => ?_) fun z => ?_
  ·refine Qz (c := p) ⟨bs, ⟨hp, ⟨i1 z, ht⟩, by omega⟩, fun c' k1 k2 => h c' k1 (by omega)⟩
  ·walk_at "hd"
   walk_at "rk"
   rw [Dm hw]
   walk_at "rk"
   refine Zj (fun z2 => ?_) fun z2 => ?_
   ·refine Qz (c := q) ⟨bs, ⟨hq, ⟨i2 z2, ht⟩, by omega⟩, fun c' k1 k2 => h c' k1 (by omega)⟩
   ·have so := GF ht hw (show loB t i ≤ a by omega) (show a < hiB t i by omega)
    walk_at "hd"
    walk_at "rk"
    refine ⟨hw, ?_⟩
    subst_vars
    walk_at "rk"
    refine Qz (c := p) ⟨bs, ⟨hp, ⟨i3, so.1⟩, by omega⟩, fun c1 k1 k2 => Qz (c := q) ⟨bs, ⟨hq, ⟨i4, so.2⟩, by omega⟩, fun c2 k3 k4 => ?_⟩⟩
    exact h (.cut i a c1 c2) (Yw hw (by omega) (by omega) k1 k3) (by rw [Vd]; omega)
theorem T3 (T : Tx K mg) (n : Nat) : ZD P w K mg base CX0 (1 + n) T.f_deep T.UW ["_law_paper"] (lift K (Y7 n)) := by
 refine Nat.rec (motive := fun n => ZD P w K mg base CX0 (1 + n) T.f_deep T.UW ["_law_paper"] (lift K (Y7 n))) ?_ (fun n G_deep => ?_) n
 ·exact U7 GJ
 show ZD P w K mg base CX0 (1 + n + 1) T.f_deep T.UW ["_law_paper"] (lift K (Y7 (n + 1)))
 refine okD T.V3.F SN (fun xs M Φ h => by obtain ⟨_, rfl, _⟩ := Qn h; rfl) fun cdv A outer s H E hr => ⟨_, (Zf (ZV (Zz (Ja hr) (Zk Qw rfl T.JH Qx (Za (Zb 0) Zd)) Zc) (Zi (Zm Zc)) Zw)
 (Zi (Zm (Zs ZE Zc (Zk (Yb rfl) rfl T.KG VE (Za (Zh G_deep (hr.mono (by first | decide | omega)) rfl T.V3.m T.V3.F.kp T.V3.b Zp (Za (Zg (Zb 0) Zc) Zd)) (Za (Zh G_deep (hr.mono (by first | decide | omega)) rfl T.V3.m T.V3.F.kp T.V3.b Zp (Za (Zg (Zb 0) Zc) Zd)) Zd))))))), fun xs M Φ h => ?_⟩
 replace h := Qn h
 obtain ⟨x1, rfl, h⟩ := h
 obtain ⟨c, rfl, hn, h⟩ := h
 cases c with
 | box k =>
  unfold cvD
  walk_at "hd"
  walk_at "rk"
  exact h
 | cut i a p q =>
  rw [Vd] at hn h
  rw [show cvD (.cut i a p q) = .tuple [.str (Str.ofString "cut"), .int i, .int a, cvD p, cvD q] from rfl]
  walk_at "hd"
  walk_at "rk"
  subst_vars
  walk_at "rk"
  refine Qz (c := p) ⟨by omega, Qz (c := q) ⟨by omega, ?_⟩⟩
  rw [show (1 : Int) + max (p.dep : Int) (q.dep : Int) = ((max p.dep q.dep + 1 : Nat) : Int) by omega]
  exact h
theorem Sv (T : Tx K mg) (n : Nat) : ZD P w K mg base CX0 (33 + n) T.Gi T.GR ["_law_paper", "_law_box_here", "_law_shape", "_law_papers_here"] (lift K (Wt n)) := by
 refine Nat.rec (motive := fun n => ZD P w K mg base CX0 (33 + n) T.Gi T.GR ["_law_paper", "_law_box_here", "_law_shape", "_law_papers_here"] (lift K (Wt n))) ?_ (fun n G_made => ?_) n
 ·exact U7 B0
 show ZD P w K mg base CX0 (33 + n + 1) T.Gi T.GR ["_law_paper", "_law_box_here", "_law_shape", "_law_papers_here"] (lift K (Wt (n + 1)))
 have G_parts : ZD P w K mg base CX0 1 T.Yd T.Yg ["_law_box_here", "_law_way", "_law_at"] (lift K Yk) := YI T
 have G_less : ZD P w K mg base CX0 32 T.Kt T.Kz ["_law_paper", "_law_box_here", "_law_part_here"] (lift K (Xi 30)) := Bl T 30
 refine okD T.V8.F W8 (fun xs M Φ h => by obtain ⟨_, _, _, _, rfl, _⟩ := GV h; rfl) fun cdv A outer s H E hr => ⟨_, (Zf (ZV (Zz (Ja hr) (Zk Qw rfl T.JH Qx (Za (Zb 0) Zd)) Zc) (Zi (Zm (Zh G_less (hr.mono (by first | decide | omega)) rfl T.Z9.m T.Z9.F.kp T.Z9.b Zp (Za (Zg (Zb 3) (Zg (Zb 0) Zc)) (Za (Zg (Zb 2) (Zg (Zb 0) Zc)) (Za (Zb 1) Zd)))))) Zw)
 (Zf (Jb (Zh G_parts (hr.mono (by first | decide | omega)) rfl T.Z6.m T.Z6.F.kp T.Z6.b Zp (Za (Zb 1) (Za (Zg (Zb 0) Zc) (Za (Zg (Zb 0) Zc) Zd)))) (Gn (n := 2) rfl (Zy (Zl 5 W8.nd) (Zy (Zl 6 W8.nd) Ql))))
 (Zf (Zv 4 W8.nd (Zh G_made (hr.mono (by first | decide | omega)) rfl T.V8.m T.V8.F.kp T.V8.b Zp (Za (Zg (Zb 0) Zc) (Za (Zb 5) (Za (Zb 2) (Za (Zb 3) Zd))))))
 (Zi (Zm (Zs OA (We (Zb 0) BZ (Yc Zc)) (Zn (Za (Zb 4) (Za (Zh G_made (hr.mono (by first | decide | omega)) rfl T.V8.m T.V8.F.kp T.V8.b Zp (Za (Zg (Zb 0) Zc) (Za (Zb 6) (Za (Zb 2) (Za (Zb 3) Zd))))) Zd))))))))), fun xs M Φ h => ?_⟩
 replace h := GV h
 obtain ⟨x1, x2, x3, x4, rfl, h⟩ := h
 obtain ⟨c, rfl, h⟩ := h
 replace h := ZK h
 obtain ⟨b, rfl, h⟩ := h
 replace h := ZW h
 obtain ⟨b1, rfl, h⟩ := h
 obtain ⟨cs, rfl, bs, ⟨hh, hb, hn, hC⟩, h⟩ := h
 cases c with
 | box k =>
  obtain ⟨j, x, rfl, ex, hi⟩ := Sj hh hb
  have hj := (List.getElem?_eq_some_iff.mp ex).1
  obtain ⟨y, ey⟩ : ∃ y, cs[j]? = some y := ⟨_, List.getElem?_eq_getElem (by rw [hC.1]; exact hj)⟩
  obtain ⟨hy, dy⟩ := hC.2 j x y ex ey
  rw [show cvD (.box (j : Int)) = .tuple [.str (Str.ofString "box"), .int j] from rfl]
  walk_at "hd"
  walk_at "rk"
  refine Q7 (d := cvD y) (Vh (by rw [List.getElem?_map, ey]; rfl)) (Q7 (d := bD x) (Vh (by rw [List.getElem?_map, ex]; rfl)) ?_)
  walk_at "rk"
  refine Qz (c := y) ⟨bs, ⟨hy, ⟨hi, hb⟩, by omega⟩, fun c' k1 k2 => h c' k1 ?_⟩
  rw [show (Cv.box (j : Int)).dep = 1 from rfl]
  omega
 | cut i a p q =>
  rw [Vd] at hn h
  obtain ⟨hw, hc, hp, hq⟩ := KQ hh
  have so := GF hb hw hc.1 hc.2
  rw [show cvD (.cut i a p q) = .tuple [.str (Str.ofString "cut"), .int i, .int a, cvD p, cvD q] from rfl]
  walk_at "hd"
  walk_at "rk"
  walk_at "hd"
  walk_at "rk"
  refine ⟨hw, ?_⟩
  walk_at "hd"
  walk_at "rk"
  refine Qz (c := p) (Ba (cs := cs) ⟨bs, ⟨hp, so.1, by omega, hC⟩, fun c1 k1 k2 => ?_⟩)
  subst_vars
  walk_at "rk"
  rw [show DL.cutD [PyData.str (Str.ofString "cut"), PyData.int i, PyData.int a, cvD p, cvD q] none (some 3) = [PyData.str (Str.ofString "cut"), PyData.int i, PyData.int a] from rfl]
  refine Qz (c := q) (Ba (cs := cs) ⟨bs, ⟨hq, so.2, by omega, hC⟩, fun c2 k3 k4 => ⟨(by decide : 3 ≤ 16777214), ?_⟩⟩)
  exact h (.cut i a c1 c2) (Yw hw hc.1 hc.2 k1 k3) (by rw [Vd]; omega)
theorem MV (T : Tx K mg) : ZD P w K mg base CX0 1 T.B5 T.BV ["_law_one", "_law_other"] (lift K Co) := by
 refine okD T.Ut.F CO (fun xs M Φ h => by obtain ⟨_, _, rfl, _⟩ := Zx h; rfl) fun cdv A outer s H E hr => ⟨_, (Zf (Vg rfl T.Q6 (Za Zc Zd) (Zl 2 CO.nd) (Zi (ZV (DW.dt (Xa (Zz WI (Zg (Zg (Zb 0) Zc) (Zb 2)) (Zs ZE (Zg (Zg (Zb 1) Zc) (Zb 2)) Zc)) (YK (Zz WI (Zg (Zg (Zb 1) Zc) (Zb 2)) (Zs ZE (Zg (Zg (Zb 0) Zc) (Zb 2)) Zc))))) (Zi (Zm JD)) Zw)) PassesOwn.never rfl)
 (Zi (Zm JD))), fun xs M Φ h => ?_⟩
 replace h := Zx h
 obtain ⟨x1, x2, rfl, h⟩ := h
 replace h := ZK h
 obtain ⟨a, rfl, h⟩ := h
 replace h := ZK h
 obtain ⟨b, rfl, h⟩ := h
 walk_at "hd"
 walk_at "rk"
 refine ⟨⟨by decide, by decide⟩, Tj ?_⟩
 walk_at "rk"
 refine Zj (fun _ => h _) fun _ => Zj (fun _ => h _) fun _ => Zj (fun _ => h _) fun _ => Zj (fun _ => h _) fun _ => ?_
 subst_vars
 walk_at "rk"
 exact h _
theorem EL (T : Tx K mg) : ZD P w K mg base CX0 3 T.Ky T.Kj ["_law_pen_here", "_law_boxes_here"] (lift K Km) := by
 have G_draw : ZD P w K mg base CX0 1 T.V2 T.V5 ["_law_pen_here", "_law_many"] (lift K V9) := Vv T
 have G_parts : ZD P w K mg base CX0 1 T.Yd T.Yg ["_law_box_here", "_law_way", "_law_at"] (lift K Yk) := YI T
 have G_touch : ZD P w K mg base CX0 1 T.B5 T.BV ["_law_one", "_law_other"] (lift K Co) := MV T
 have G_box : ZD P w K mg base CX0 2 T.Mj T.OD ["_law_pen_here", "_law_box_here"] (lift K Nb) := Pl T
 refine okD T.JC.F QH (fun xs M Φ h => by obtain ⟨_, _, rfl, _⟩ := Zx h; rfl) fun cdv A outer s H E hr => ⟨_, (Zf (Zv 2 QH.nd (Zh G_draw (hr.mono (by first | decide | omega)) rfl T.Zo.m T.Zo.F.kp T.Zo.b Zp (Za (Zb 0) (Za Zc Zd))))
 (Zf (Jb (Zg (Zb 1) Zc) (Vk (n := 2) rfl (Zy (Zl 3 QH.nd) (Zy (Zl 4 QH.nd) Ql))))
 (Zf (ZV (DW.dt (Xp (Zz (Ja hr) (Zb 2) Zc) (Y5 (Zz Xy (Zk Qw rfl T.JH Qx (Za (Zb 1) Zd)) Zc)))) (Zi (Zm (Zs Kk (Zb 1) (QA (Za (Zh G_box (hr.mono (by first | decide | omega)) rfl T.KY.m T.KY.F.kp T.KY.b Zp (Za (Zb 0) (Za (Zg (Zb 1) (CN Zc)) Zd))) Zd))))) Zw)
 (Zf (ZV (DW.dt (Xp (Zz (Ja hr) (Zb 2) Zc) (Xp (Zz Xy (Zg (Zb 3) Zc) (Zg (Zb 4) Zc)) (Y5 (Zz Xy (Zk Qw rfl T.JH Qx (Za (Zb 1) Zd)) Zc))))) (Zf (Jb (Zh G_parts (hr.mono (by first | decide | omega)) rfl T.Z6.m T.Z6.F.kp T.Z6.b Zp (Za (Zg (Zb 1) Zc) (Za Zc (Za (Zs ZE (Zg (Zb 3) Zc) (Zh G_draw (hr.mono (by first | decide | omega)) rfl T.Zo.m T.Zo.F.kp T.Zo.b Zp (Za (Zb 0) (Za (Zs Qa (Zg (Zb 4) Zc) (Zg (Zb 3) Zc)) Zd)))) Zd)))) (Gn (n := 2) rfl (Zy (Zl 7 QH.nd) (Zy (Zl 8 QH.nd) Ql))))
 (Zf (ZV (DW.dt (Xa (Zz (Ja hr) (Zk Qw rfl T.JH Qx (Za (Zb 1) Zd)) Zc) (YK (Jc (Zh G_touch (hr.mono (by first | decide | omega)) rfl T.Ut.m T.Ut.F.kp T.Ut.b Zp (Za (Zb 8) (Za (Zg (Zb 1) Zc) Zd))))))) (Zi (Zm (Zs Kk (QA (Za (Zb 7) (Za (Zb 8) Zd))) (U6 (Zb 1) (Yc Zc) BZ)))) Zw)
 (Zi (Zm (Zs Kk (QA (Za (Zb 8) (Za (Zb 7) Zd))) (U6 (Zb 1) (Yc Zc) BZ)))))) Zw)
 (Zf (ZV (Zz (Ja hr) (Zb 2) Zc) (Zf (Zv 5 QH.nd (Zh G_draw (hr.mono (by first | decide | omega)) rfl T.Zo.m T.Zo.F.kp T.Zo.b Zp (Za (Zb 0) (Za Zc Zd))))
 (Zi (Zm (QV false (ZH (sc := Ze Qs) (XN := ["_law_pen_here", "_law_boxes_here", "_law_way", "_law_low", "_law_high", "_law_more", "_law_begin", "_law_one", "_law_other"]) (N := ["_law_box_here", "_law_more"]) (ix := [none, some 5]) rfl rfl (by decide +kernel)) (JG (Zb 1)) (fun C ex s H => (Zl 0 (show List.Nodup (["_law_box_here", "_law_more"] : List Str) by decide +kernel))) (fun C ex s H => Z0) (fun C ex s H => (Zn (Za (Zg (Zb 0) Zc) (Za (Zn (Za (Zk (Ve rfl) rfl T.Yj JE (Za Zc (Za (Zs ZE (Zg (Zg (Zb 0) Zc) Zc) (Zb 1)) Zd))) (Za (Zk (Ve rfl) rfl T.Yj JE (Za Zc (Za (Zs Qa (Zs ZE (Zg (Zg (Zb 0) Zc) Zc) Zc) (Zb 1)) Zd))) Zd))) Zd)))) rfl)))) Zw)
 (Zf (ZV (Zz (Ja hr) (Zb 2) Zc) (Zf (Zv 6 QH.nd (QW QF rfl T.JW Q4 (Za (GQ false (Wa (k := "_law_k") (sc := Ze Qs) (XN := ["_law_pen_here", "_law_boxes_here", "_law_way", "_law_low", "_law_high", "_law_more", "_law_begin", "_law_one", "_law_other"]) (N := ["_law_k", "_law_boxes_here"]) (ix := [none, some 1]) rfl rfl (by intro _ _; rfl) (by intro _; rfl) (by decide +kernel)) (VJ rfl T.Q6 (Za Zc Zd)) (fun C ex s H => (Zl 0 (show List.Nodup (["_law_k", "_law_boxes_here"] : List Str) by decide +kernel))) (fun C ex s H => Z0) (fun C ex s H => (Zk (Ke rfl) rfl T.Yj JE (Za (QV false (K7 (sc := Ze Qs) (N := ["_law_box_here", "_law_k"]) (ix := [none, some 0]) rfl (by decide +kernel)) (JG (Zb 1)) (fun C ex s H => (Zl 0 (show List.Nodup (["_law_box_here", "_law_k"] : List Str) by decide +kernel))) (fun C ex s H => Z0) (fun C ex s H => (Zg (Zg (Zb 0) Zc) (Zb 1))) rfl) Zd))) rfl) Zd)))
 (Zi (Zm (QA (Za (Zn (Za (Zb 6) (Za (QW QF rfl T.JW Q4 (Za (GQ false (Wa (k := "_law_k") (sc := Ze Qs) (XN := ["_law_pen_here", "_law_boxes_here", "_law_way", "_law_low", "_law_high", "_law_more", "_law_begin", "_law_one", "_law_other"]) (N := ["_law_k", "_law_boxes_here"]) (ix := [none, some 1]) rfl rfl (by intro _ _; rfl) (by intro _; rfl) (by decide +kernel)) (VJ rfl T.Q6 (Za Zc Zd)) (fun C ex s H => (Zl 0 (show List.Nodup (["_law_k", "_law_boxes_here"] : List Str) by decide +kernel))) (fun C ex s H => Z0) (fun C ex s H => (Zk (Be rfl) rfl T.KG VE (Za (QV false (K7 (sc := Ze Qs) (N := ["_law_box_here", "_law_k"]) (ix := [none, some 0]) rfl (by decide +kernel)) (JG (Zb 1)) (fun C ex s H => (Zl 0 (show List.Nodup (["_law_box_here", "_law_k"] : List Str) by decide +kernel))) (fun C ex s H => Z0) (fun C ex s H => (Zg (Zg (Zb 0) Zc) (Zb 1))) rfl) Zd))) rfl) Zd)) Zd))) Zd))))) Zw)
 (Zi (Zm (Tv (Zb 1) (CN Zc)))))))))), fun xs M Φ h => ?_⟩
 replace h := Zx h
 obtain ⟨x1, x2, rfl, h⟩ := h
 replace h := Jf h
 obtain ⟨p, rfl, h⟩ := h
 replace h := E8 h
 obtain ⟨bs, rfl, ⟨hg, hP⟩, h⟩ := h
 obtain ⟨b0, rest, rfl⟩ : ∃ b0 rest, bs = b0 :: rest := by
  cases bs with
  | nil => exact absurd hg.1 (by decide)
  | cons b0 rest => exact ⟨_, _, rfl⟩
 walk_at "hd"
 walk_at "rk"
 refine ⟨hP, fun r M1 r0 r1 f1 => ?_⟩
 walk_at "hd"
 walk_at "rk"
 walk_at "hd"
 rename_i R hR
 have hlen : rest.length ≤ 5 := by
  have := hg.2.1
  rw [List.length_cons] at this
  omega
 have c0 := hg.2.2 b0 (.head _)
 have ok0 := ZG.mp c0.1
 have go : R { nx := fun x M' => Φ (DV.dat PyData.none) M', rt := Φ } [some (.own p), some (.dat (.list (bD b0 :: rest.map bD))), some (.dat (.int r)), some (.dat (.tuple [.int b0.x, .int b0.y])), some (.dat (.tuple [.int b0.X, .int b0.Y])), none, none, none, none] M1 := by
  walk_at "hd"
  rename_i R hR
  have go : R { nx := fun x M' => Φ (DV.dat PyData.none) M', rt := Φ } [some (.own p), some (.dat (.list (bD b0 :: rest.map bD))), some (.dat (.int r)), some (.dat (.tuple [.int b0.x, .int b0.y])), some (.dat (.tuple [.int b0.X, .int b0.Y])), none, none, none, none] M1 := by
   walk_at "hd"
   rename_i R hR
   have go : R { nx := fun x M' => Φ (DV.dat PyData.none) M', rt := Φ } [some (.own p), some (.dat (.list (bD b0 :: rest.map bD))), some (.dat (.int r)), some (.dat (.tuple [.int b0.x, .int b0.y])), some (.dat (.tuple [.int b0.X, .int b0.Y])), none, none, none, none] M1 := by
    walk_at "hd"
    rename_i R hR
    have go : R { nx := fun x M' => Φ (DV.dat PyData.none) M', rt := Φ } [some (.own p), some (.dat (.list (bD b0 :: rest.map bD))), some (.dat (.int r)), some (.dat (.tuple [.int b0.x, .int b0.y])), some (.dat (.tuple [.int b0.X, .int b0.Y])), none, none, none, none] M1 := by
     subst_vars
     walk_at "rk"
     have := h (b0 :: rest).reverse M1 ⟨by rw [List.length_reverse]; exact hg.1, by rw [List.length_reverse]; exact hg.2.1, fun b hb => hg.2.2 b (List.mem_reverse.mp hb)⟩ (fun u v k => ?_) f1.1
     ·rw [List.map_reverse] at this
      exact this
     ·obtain ⟨b, mb, hb⟩ := Qe k
      exact J1 (List.mem_reverse.mpr mb) hb
    walk_at "rk"
    refine Zj (fun _ => ?_) fun _ => go
    refine ⟨⟨by decide, by decide⟩, by rw [List.length_map]; omega, fun i acc M' => acc = (((b0 :: rest).take i).map B4.x).map PyData.int ∧ M' = M1, ⟨rfl, rfl⟩, ?_, ?_⟩
    ·rintro i d acc M' hd ⟨rfl, rfl⟩
     obtain ⟨b, eb, rfl⟩ := Z1 (l := b0 :: rest) hd
     walk_at "rk"
     rw [← take_snoc _ eb, List.map_append]
     rfl
    rintro acc M2 ⟨rfl, rfl⟩
    rw [List.length_map, ← List.length_cons (a := b0), List.take_length]
    refine ⟨_, .inl rfl, by rw [List.length_map]; exact hg.1, fun mx hx nx => ?_⟩
    refine ⟨ by omega, fun i acc M' => acc = (((b0 :: rest).take i).map B4.y).map PyData.int ∧ M' = M2, ⟨rfl, rfl⟩, ?_, ?_⟩
    ·rintro i d acc M' hd ⟨rfl, rfl⟩
     obtain ⟨b, eb, rfl⟩ := Z1 (l := b0 :: rest) hd
     walk_at "rk"
     rw [← take_snoc _ eb, List.map_append]
     rfl
    rintro acc M3 ⟨rfl, rfl⟩
    rw [List.take_length]
    refine ⟨_, .inl rfl, by rw [List.length_map]; exact hg.1, fun my hy ny => ?_⟩
    refine ⟨⟨by decide, by decide⟩, by omega, fun i acc M' => acc = (((b0 :: rest).take i).map B4.X).map PyData.int ∧ M' = M3, ⟨rfl, rfl⟩, ?_, ?_⟩
    ·rintro i d acc M' hd ⟨rfl, rfl⟩
     obtain ⟨b, eb, rfl⟩ := Z1 (l := b0 :: rest) hd
     walk_at "rk"
     rw [← take_snoc _ eb, List.map_append]
     rfl
    rintro acc M4 ⟨rfl, rfl⟩
    rw [List.take_length]
    refine ⟨_, .inl rfl, by rw [List.length_map]; exact hg.1, fun mX hX nX => ?_⟩
    refine ⟨ by omega, fun i acc M' => acc = (((b0 :: rest).take i).map B4.Y).map PyData.int ∧ M' = M4, ⟨rfl, rfl⟩, ?_, ?_⟩
    ·rintro i d acc M' hd ⟨rfl, rfl⟩
     obtain ⟨b, eb, rfl⟩ := Z1 (l := b0 :: rest) hd
     walk_at "rk"
     rw [← take_snoc _ eb, List.map_append]
     rfl
    rintro acc M5 ⟨rfl, rfl⟩
    rw [List.take_length]
    refine ⟨_, .inl rfl, by rw [List.length_map]; exact hg.1, fun mY hY nY => ?_⟩
    obtain ⟨g1, g2⟩ := ZaE hg hx nx hy ny hX nX hY nY
    exact h [⟨mx, my, mX, mY⟩] _ g1 g2 f1.1
   walk_at "rk"
   refine Zj (fun _ => ⟨f1.1, fun q M2 q0 q1 f2 => ⟨by rw [List.length_map]; omega, fun i acc M' => acc = (((b0 :: rest).take i).map (Bg q)).map bD ∧ M' = M2, ⟨rfl, rfl⟩, ?_, ?_⟩⟩) fun _ => go
   ·rintro i d acc M' hd ⟨rfl, rfl⟩
    obtain ⟨b, eb, rfl⟩ := Z1 (l := b0 :: rest) hd
    walk_at "rk"
    rw [← take_snoc _ eb, List.map_append]
    rfl
   ·rintro acc M' ⟨rfl, rfl⟩
    rw [List.length_map, ← List.length_cons (a := b0), List.take_length]
    refine h _ _ ⟨by rw [List.length_map]; exact hg.1, by rw [List.length_map]; exact hg.2.1, fun c hc => ?_⟩ (fun u v k => ?_) f2.1
    ·obtain ⟨b, hb, rfl⟩ := List.mem_map.mp hc
     exact (He q0 q1 (hg.2.2 b hb)).1
    ·obtain ⟨b, mb, hb⟩ := Qe k
     exact J1 (List.mem_map_of_mem mb) ((He q0 q1 (hg.2.2 b mb)).2 u v hb)
  walk_at "rk"
  refine Zj (fun _ => Zj (fun z1 => Zj (fun z2 => ?_) fun _ => go) fun _ => go) fun _ => go
  refine ⟨⟨by omega, by have := c0.2; omega⟩, f1.1, fun q M2 q0 q1 f2 => ⟨.inl trivial, ?_⟩⟩
  rw [RL]
  have ce := c0.2
  have two : ∀ x y : B4, ((x = upB b0 0 (b0.x + q) ∧ y = owB b0 0 (b0.x + q + 1)) ∨ (x = owB b0 0 (b0.x + q + 1) ∧ y = upB b0 0 (b0.x + q))) → 2 + (rest.map bD).length ≤ 16777216 ∧ Φ (.dat (.list (bD x :: bD y :: rest.map bD))) M2 := fun x y hxy => by
   have cu : Cel (upB b0 0 (b0.x + q)) := ⟨ZG.mpr ⟨by show b0.x ≤ b0.x + q; omega, ok0.2⟩, ⟨ce.1.1, by show b0.x + q ≤ 11; omega⟩, ce.2⟩
   have cw : Cel (owB b0 0 (b0.x + q + 1)) := ⟨ZG.mpr ⟨by show b0.x + q + 1 ≤ b0.X; omega, ok0.2⟩, ⟨by show 0 ≤ b0.x + q + 1; omega, ce.1.2⟩, ce.2⟩
   refine ⟨by rw [List.length_map]; omega, h (x :: y :: rest) M2 ⟨by simp, by rw [List.length_map] at z2; simp only [List.length_cons]; omega, fun b hb => ?_⟩ (fun u v k => ?_) f2.1⟩
   ·simp only [List.mem_cons] at hb
    rcases hxy with ⟨rfl, rfl⟩ | ⟨rfl, rfl⟩ <;> rcases hb with rfl | rfl | hb <;> first | exact cu | exact cw | exact hg.2.2 b (.tail _ hb)
   ·obtain ⟨b, mb, hb⟩ := Qe k
    rcases List.mem_cons.mp mb with rfl | mb
    ·rcases FA (a := b.x + q) hb (.inl rfl) with k | k <;> rcases hxy with ⟨rfl, rfl⟩ | ⟨rfl, rfl⟩ <;> first | exact J1 (.head _) k | exact J1 (.tail _ (.head _)) k
    ·exact J1 (.tail _ (.tail _ mb)) hb
  refine Zj (fun _ => two _ _ (.inl ⟨rfl, rfl⟩)) fun z3 => ?_
  cases rest with
  | nil => exact absurd rfl z3
  | cons b1 r2 =>
   refine Q7 (d := bD b1) (Vh (j := 1) rfl) ?_
   walk_at "rk"
   intro k
   cases k
   ·exact two _ _ (.inr ⟨rfl, rfl⟩)
   ·exact two _ _ (.inl ⟨rfl, rfl⟩)
 walk_at "rk"
 refine Zj (fun _ => Zj (fun z => ?_) fun _ => go) fun _ => go
 obtain ⟨init, l, e⟩ : ∃ init l, b0 :: rest = init ++ [l] := by
  rcases List.eq_nil_or_concat (b0 :: rest) with e | ⟨i, l, e⟩
  ·cases e
  ·exact ⟨i, l, by rw [e, List.concat_eq_append]⟩
 have em : (bD b0 :: rest.map bD) = init.map bD ++ [bD l] := by rw [← List.map_cons, e, List.map_append]; rfl
 refine Q7 (d := bD l) (by rw [em]; exact MJ _ _) ?_
 walk_at "rk"
 refine ⟨hg.2.2 l (by rw [e]; simp), f1.1, fun c M2 hc f2 => ⟨by rw [List.length_map]; omega, ?_⟩⟩
 have := h (b0 :: rest ++ [c]) M2 ⟨by simp, by rw [List.length_append]; simp only [List.length_cons, List.length_nil]; rw [List.length_map] at z; omega, fun b hb => ?_⟩ (fun u v q => ?_) f2.1
 ·rw [List.map_append] at this
  exact this
 ·rcases List.mem_append.mp hb with hb | hb
  ·exact hg.2.2 b hb
  ·rw [List.mem_singleton.mp hb]
   exact hc
 ·obtain ⟨b, mb, hb⟩ := Qe q
  exact J1 (List.mem_append_left _ mb) hb
theorem Lm (T : Tx K mg) : ZD P w K mg base CX0 34 T.WJ T.Ue ["_law_one", "_law_other"] (lift K WV) := by
 have G_within : ZD P w K mg base CX0 33 T.WR T.UJ ["one", "other"] (lift K UC) := ER T
 have G_holds : ZD P w K mg base CX0 3 T.B7 T.Cn ["_law_shape", "_law_box_here", "_law_thing"] (lift K (LO 26)) := NH T
 refine okD T.Q3.F YH (fun xs M Φ h => by obtain ⟨_, _, rfl, _⟩ := Zx h; rfl) fun cdv A outer s H E hr => ⟨_, (Zf (Zv 2 YH.nd (Zh G_within (hr.mono (by first | decide | omega)) rfl T.XH.m T.XH.F.kp T.XH.b Zp (Za (Zb 0) (Za (Zb 1) Zd))))
 (Zf (ZV (DW.dt (Xa (Zz (Fg hr) (Zg (Zb 2) Zc) QM) (YK (Zz (Fg hr) (Zk Qw rfl T.JH Qx (Za (Zg (Zb 2) Zc) Zd)) (Zk Qw rfl T.JH Qx (Za (Zb 0) Zd)))))) (Zi (Zm Gx)) Zw)
 (Zf (Ld (L7 rfl T.ZaR (Za (Zb 0) (Za (Zg (Zb 2) Zc) Zd))) (Vk (n := 2) rfl (Zy (Zl 3 YH.nd) (Zy (Zl 4 YH.nd) Ql))) (Zi (ZV (Vj (Jc (Zh G_holds (hr.mono (by first | decide | omega)) rfl T.UG.m T.UG.F.kp T.UG.b Zp (Za (Zb 1) (Za (Zb 3) (Za (Zb 4) Zd)))))) (Zi (Zm Gx)) Zw)) PassesOwn.never rfl)
 (Zi (Zm (Zg (Zb 2) Zc)))))), fun xs M Φ h => ?_⟩
 replace h := Zx h
 obtain ⟨x1, x2, rfl, h⟩ := h
 replace h := ZW h
 obtain ⟨b1, rfl, h⟩ := h
 replace h := ZW h
 obtain ⟨b2, rfl, ⟨s1, s2, hc⟩, h⟩ := h
 walk_at "hd"
 walk_at "rk"
 refine ⟨⟨s1, s2, hc⟩, fun cs hC => ?_⟩
 have hl := hC.1
 walk_at "hd"
 walk_at "rk"
 rw [List.length_map, List.length_map, hl]
 walk_at "rk"
 walk_at "hd"
 walk_at "rk"
 refine ⟨fun i Δ M' => ∃ k3 k4 : Option DV, Δ = [some (.dat (.tuple (b1.map bD))), some (.dat (.tuple (b2.map bD))), some (.dat (.tuple [.str (Str.ofString "yes"), .list (cs.map cvD)])), k3, k4] ∧ Ext M M', ⟨_, _, rfl, Ext.refl _⟩, ?_, ?_⟩
 ·rintro i d Δ M' hd ⟨k3, k4, rfl, e1⟩
  obtain ⟨b, c, eb, ec, rfl⟩ := zip_get hd
  obtain ⟨hh, dc⟩ := hC.2 i b c eb ec
  walk_at "rk"
  refine ⟨⟨Dv (Nat.le_succ_of_le dc), s1.2.2 b (List.mem_of_getElem? eb)⟩, fun M3 e3 => ?_⟩
  rw [XA (Nat.le_succ_of_le dc), hh]
  walk_at "rk"
  exact ⟨_, _, rfl, e1.trans e3⟩
 ·rintro Δ M' ⟨k3, k4, rfl, e1⟩
  subst_vars
  walk_at "rk"
  exact h cs M' hC e1
theorem Sf (T : Tx K mg) : ZD P w K mg base CX0 2 T.Hw T.LA ["_law_pen_here", "_law_box_here"] (lift K HB) := by
 have G_draw : ZD P w K mg base CX0 1 T.V2 T.V5 ["_law_pen_here", "_law_many"] (lift K V9) := Vv T
 refine okD T.CC.F Bi (fun xs M Φ h => by obtain ⟨_, _, rfl, _⟩ := Zx h; rfl) fun cdv A outer s H E hr => ⟨_, (Zf (Zv 2 Bi.nd (N2 false (ZH (sc := Ze Xh) (XN := ["_law_pen_here", "_law_box_here", "_law_begin", "_law_end"]) (N := ["_law_k", "_law_pen_here", "_law_box_here"]) (ix := [none, some 0, some 1]) rfl rfl (by decide +kernel)) (VJ rfl T.Q6 (Za Zc Zd)) (fun C ex s H => (Zl 0 (show List.Nodup (["_law_k", "_law_pen_here", "_law_box_here"] : List Str) by decide +kernel))) (fun C ex s H => Z0) (fun C ex s H => (Zs ZE (Zg (Zg (Zb 2) Zc) (Zb 0)) (Zh G_draw (hr.mono (by first | decide | omega)) rfl T.Zo.m T.Zo.F.kp T.Zo.b Zp (Za (Zb 1) (Za (Zs ZE (Zs Qa (Zg (Zg (Zb 2) Zc) (Zb 0)) (Zg (Zg (Zb 2) Zc) (Zb 0))) Zc) Zd))))) rfl))
 (Zf (VW 3 false Bi.nd (ZH (sc := Ze Xh) (XN := ["_law_pen_here", "_law_box_here", "_law_begin", "_law_end"]) (N := ["_law_k", "_law_begin", "_law_pen_here", "_law_box_here"]) (ix := [none, some 2, some 0, some 1]) rfl rfl (by decide +kernel)) (VJ rfl T.Q6 (Za Zc Zd)) (fun C ex s H => (Zl 0 (show List.Nodup (["_law_k", "_law_begin", "_law_pen_here", "_law_box_here"] : List Str) by decide +kernel))) (fun C ex s H => Z0) (fun C ex s H => (Zs ZE (Zg (Zb 1) (Zb 0)) (Zh G_draw (hr.mono (by first | decide | omega)) rfl T.Zo.m T.Zo.F.kp T.Zo.b Zp (Za (Zb 2) (Za (Zs ZE (Zs Qa (Zg (Zg (Zb 3) Zc) (Zb 0)) (Zg (Zb 1) (Zb 0))) Zc) Zd))))) rfl)
 (Zi (Zm (Zn (Za (QW QF rfl T.JW Q4 (Za (Zb 2) Zd)) (Za (QW QF rfl T.JW Q4 (Za (Zb 3) Zd)) Zd))))))), fun xs M Φ h => ?_⟩
 replace h := Zx h
 obtain ⟨x1, x2, rfl, h⟩ := h
 replace h := Jf h
 obtain ⟨p, rfl, h⟩ := h
 replace h := ZK h
 obtain ⟨b, rfl, ⟨hb, hf⟩, hP, h⟩ := h
 have ok := ZG.mp hb
 unfold Far at hf
 walk_at "hd"
 walk_at "rk"
 refine ⟨⟨by decide, by decide⟩, ⟨by omega, by omega⟩, hP, fun r M1 r0 r1 f1 => ⟨⟨by omega, by omega⟩, f1.1, fun r2 M2 a2 b2 f2 => ?_⟩⟩
 walk_at "hd"
 walk_at "rk"
 refine ⟨⟨by decide, by decide⟩, ⟨by omega, by omega⟩, f2.1, fun r3 M3 a3 b3 f3 => ⟨⟨by omega, by omega⟩, f3.1, fun r4 M4 a4 b4 f4 => ?_⟩⟩
 subst_vars
 walk_at "rk"
 exact h ⟨b.x + r, b.y + r2, b.x + r + r3, b.y + r2 + r4⟩ M4 (XT.mpr (by dsimp only; omega)) (ZG.mpr (by dsimp only; omega)) (((f1.trans f2).trans f3).trans f4)
theorem Hv (T : Tx K mg) : ZD P w K mg base CX0 33 T.WA T.Ug ["_law_box_here", "_law_way", "_law_paper"] (lift K Wz) := by
 have G_parts : ZD P w K mg base CX0 1 T.Yd T.Yg ["_law_box_here", "_law_way", "_law_at"] (lift K Yk) := YI T
 have G_less : ZD P w K mg base CX0 32 T.Kt T.Kz ["_law_paper", "_law_box_here", "_law_part_here"] (lift K (Xi 30)) := Bl T 30
 refine okD T.XB.F Yx (fun xs M Φ h => by obtain ⟨_, _, _, rfl, _⟩ := Z3 h; rfl) fun cdv A outer s H E hr => ⟨_, (Zf (Zv 3 Yx.nd (Zg (Zg (Zb 0) Zc) (Zb 1)))
 (Zf (ZV (Zz (Ja hr) (Zb 3) (Zg (Zg (Zb 0) Zc) (Zb 1))) (Zi (Zm (Zb 2))) Zw)
 (Zf (Jb (Zh G_parts (hr.mono (by first | decide | omega)) rfl T.Z6.m T.Z6.F.kp T.Z6.b Zp (Za (Zb 0) (Za (Zb 1) (Za (Zb 3) Zd)))) (Gn (n := 2) rfl (Zy (Zl 4 Yx.nd) (Zy (Zl 5 Yx.nd) Ql))))
 (Zi (Zm (Zn (Za QM (Za (Zb 1) (Za (Zb 3) (Za (Zh G_less (hr.mono (by first | decide | omega)) rfl T.Z9.m T.Z9.F.kp T.Z9.b Zp (Za (Zb 2) (Za (Zb 0) (Za (Zb 4) Zd)))) (Za (Zh G_less (hr.mono (by first | decide | omega)) rfl T.Z9.m T.Z9.F.kp T.Z9.b Zp (Za (Zb 2) (Za (Zb 0) (Za (Zb 5) Zd)))) Zd))))))))))), fun xs M Φ h => ?_⟩
 replace h := Z3 h
 obtain ⟨x1, x2, x3, rfl, h⟩ := h
 replace h := ZK h
 obtain ⟨b, rfl, h⟩ := h
 replace h := ZO h
 obtain ⟨i, rfl, c, rfl, bs, ⟨hh, hb, hw, hn⟩, h⟩ := h
 have ok := ZG.mp hb
 walk_at "hd"
 walk_at "rk"
 rw [Dm hw]
 walk_at "rk"
 walk_at "hd"
 walk_at "rk"
 rw [CQ hw]
 walk_at "rk"
 refine Zj (fun z => h c hh (Nat.le_succ _)) fun z => ?_
 have lh : loB b i < hiB b i := by
  have : loB b i ≤ hiB b i := by rcases hw with rfl | rfl <;> simp only [loB, hiB, if_true, if_false, Int.reduceEq] <;> omega
  omega
 have si := Ta hw (Int.le_refl (loB b i)) lh
 have so := GF hb hw (Int.le_refl (loB b i)) lh
 walk_at "hd"
 walk_at "rk"
 refine ⟨hw, ?_⟩
 subst_vars
 walk_at "rk"
 refine Qz (c := c) ⟨bs, ⟨hh, ⟨si.1, so.1⟩, hn⟩, fun c1 k1 k2 => Qz (c := c) ⟨bs, ⟨hh, ⟨si.2, so.2⟩, hn⟩, fun c2 k3 k4 => ?_⟩⟩
 exact h (.cut i (loB b i) c1 c2) (Yw hw (Int.le_refl _) lh k1 k3) (by rw [Vd]; omega)
theorem W5 (T : Tx K mg) : ZD P w K mg base CX0 37 T.Vt T.VC ["_law_pen_here", "_law_shape", "_law_box_here", "_law_made_here"] (lift K Yf) := by
 have G_part : ZD P w K mg base CX0 2 T.Hw T.LA ["_law_pen_here", "_law_box_here"] (lift K HB) := Sf T
 have G_less : ZD P w K mg base CX0 32 T.Kt T.Kz ["_law_paper", "_law_box_here", "_law_part_here"] (lift K (Xi 30)) := Bl T 30
 have G_joined : ZD P w K mg base CX0 33 T.WA T.Ug ["_law_box_here", "_law_way", "_law_paper"] (lift K Wz) := Hv T
 have G_holds_cover : ZD P w K mg base CX0 36 T.QU T.QO ["shape", "box", "thing"] (lift K (Y1 31)) := K0 T 31
 have G_draw : ZD P w K mg base CX0 1 T.V2 T.V5 ["_law_pen_here", "_law_many"] (lift K V9) := Vv T
 refine okD T.JT.F QT (fun xs M Φ h => by obtain ⟨_, _, _, _, rfl, _⟩ := GV h; rfl) fun cdv A outer s H E hr => ⟨_, (Zf (Zv 4 QT.nd (Zh G_part (hr.mono (by first | decide | omega)) rfl T.CC.m T.CC.F.kp T.CC.b Zp (Za (Zb 0) (Za (Zb 2) Zd))))
 (Zf (Zv 5 QT.nd (QP (Za (Zn (Za (Zb 2) (Za (Zb 3) Zd))) (Za (Zn (Za (Zb 4) (Za (Zh G_less (hr.mono (by first | decide | omega)) rfl T.Z9.m T.Z9.F.kp T.Z9.b Zp (Za (Zb 3) (Za (Zb 2) (Za (Zb 4) Zd)))) Zd))) Zd))))
 (Zf (Va (Jx (Zb 5) (Zn (Za (Zb 2) (Za (Zh G_joined (hr.mono (by first | decide | omega)) rfl T.XB.m T.XB.F.kp T.XB.b Zp (Za (Zb 2) (Za (Zh G_draw (hr.mono (by first | decide | omega)) rfl T.Zo.m T.Zo.F.kp T.Zo.b Zp (Za (Zb 0) (Za Zc Zd))) (Za (Zb 3) Zd)))) Zd)))))
 (Zf (BY (DB (Zb 5)) (Vk (n := 2) rfl (Zy (Zl 6 QT.nd) (Zy (Zl 7 QT.nd) Ql))) (Zi (ZV (Zz Lj (Zh G_holds_cover (hr.mono (by first | decide | omega)) rfl T.ZM.m T.ZM.F.kp T.ZM.b Zp (Za (Zb 1) (Za (Zb 6) (Za (Zb 7) Zd)))) JD) (Zi (Zm JD)) Zw)) PassesOwn.never rfl)
 (Zi (Zm JD)))))), fun xs M Φ h => ?_⟩
 replace h := GV h
 obtain ⟨x1, x2, x3, x4, rfl, h⟩ := h
 replace h := Jf h
 obtain ⟨p, rfl, h⟩ := h
 replace h := ZW h
 obtain ⟨bs, rfl, h⟩ := h
 replace h := ZK h
 obtain ⟨b, rfl, c, rfl, ⟨hh, ⟨hb, hf⟩, hn⟩, hP, h⟩ := h
 walk_at "hd"
 walk_at "rk"
 refine ⟨⟨hb, hf⟩, hP, fun t M1 t1 t2 f1 => ?_⟩
 walk_at "hd"
 walk_at "rk"
 refine Qz (c := c) ⟨bs, ⟨hh, ⟨t1, t2⟩, by omega⟩, fun c1 k1 k2 => ?_⟩
 intro q hq
 have n1 : p ≠ q := f1.1.ne hq
 walk_at "hd"
 walk_at "rk"
 refine ⟨f1.1.put n1, fun r M2 r0 r1 f2 => Qz (c := c) ⟨bs, ⟨hh, hb, by omega, by omega⟩, fun c2 k3 k4 => ?_⟩⟩
 rw [f2.own ZU (Ne.symm n1)]
 walk_at "rk"
 walk_at "hd"
 walk_at "rk"
 have P2 : Pen (Ku (Z8 M2 q (.lst [.tuple [bD b, cvD c], .tuple [bD t, cvD c1], .tuple [bD b, cvD c2]])) q) p := by
  obtain ⟨o, ho, hp⟩ := f2.1
  exact ⟨o, ho, by rw [BU n1, Qy n1]; exact hp⟩
 refine ⟨fun i Δ M3 => ∃ k6 k7 : Option DV, Δ = [some (.own p), some (.dat (.tuple (bs.map bD))), some (.dat (bD b)), some (.dat (cvD c)), some (.dat (bD t)), some (.own q), k6, k7] ∧ Pen M3 p, ⟨_, _, rfl, P2⟩, ?_, ?_⟩
 ·rintro i d Δ M3 hd ⟨k6, k7, rfl, P3⟩
  obtain ⟨b', c', rfl, hh', dc⟩ : ∃ b' c', d = .tuple [bD b', cvD c'] ∧ ZF bs b' c' = true ∧ c'.dep ≤ 30 := by
   rcases i with _ | _ | _ | i
   ·cases hd; exact ⟨_, _, rfl, hh, by omega⟩
   ·cases hd; exact ⟨_, _, rfl, k1, by omega⟩
   ·cases hd; exact ⟨_, _, rfl, k3, by omega⟩
   ·cases hd
  walk_at "rk"
  refine ⟨Dv (Nat.le_succ_of_le dc), ?_⟩
  rw [XA (Nat.le_succ_of_le dc), hh']
  walk_at "rk"
  exact ⟨_, _, rfl, P3⟩
 ·rintro Δ M3 ⟨k6, k7, rfl, P3⟩
  subst_vars
  walk_at "rk"
  exact h _ P3
theorem EK (T : Tx K mg) : ZD P w K mg base CX0 60 T.Kl T.XW ["_law_pen_here", "_law_shapes"] (lift K W2) := by
 have G_papers : ZD P w K mg base CX0 34 T.WJ T.Ue ["_law_one", "_law_other"] (lift K WV) := Lm T
 have G_made : ZD P w K mg base CX0 59 T.Gi T.GR ["_law_paper", "_law_box_here", "_law_shape", "_law_papers_here"] (lift K (Wt 26)) := Sv T 26
 have G_deep : ZD P w K mg base CX0 52 T.f_deep T.UW ["_law_paper"] (lift K (Y7 51)) := T3 T 51
 have G_made_right : ZD P w K mg base CX0 37 T.Vt T.VC ["_law_pen_here", "_law_shape", "_law_box_here", "_law_made_here"] (lift K Yf) := W5 T
 refine okD T.Yz.F Jo (fun xs M Φ h => by obtain ⟨_, _, rfl, _⟩ := Zx h; rfl) fun cdv A outer s H E hr => ⟨_, (Zf (Zv 2 Jo.nd (Zh G_papers (hr.mono (by first | decide | omega)) rfl T.Q3.m T.Q3.F.kp T.Q3.b Zp (Za (Zg (Zb 1) Zc) (Za (Zg (Zb 1) Zc) Zd))))
 (Zf (Zv 3 Jo.nd (Zh G_papers (hr.mono (by first | decide | omega)) rfl T.Q3.m T.Q3.F.kp T.Q3.b Zp (Za (Zg (Zb 1) Zc) (Za (Zg (Zb 1) Zc) Zd))))
 (Zf (ZV (DW.dt (Xa (Zz HR (Zb 2) Gx) (Xa (Zz HR (Zb 3) Gx) (YK (Zz HR (Zh G_papers (hr.mono (by first | decide | omega)) rfl T.Q3.m T.Q3.F.kp T.Q3.b Zp (Za (Zg (Zb 1) Zc) (Za (Zg (Zb 1) Zc) Zd))) Gx))))) (Zi (Zm JD)) Zw)
 (Zf (Ld (L7 rfl T.ZaR (Za (Zg (Zb 1) Zc) (Za (Zb 2) Zd))) (Vk (n := 2) rfl (Zy (Zl 4 Jo.nd) (Zy (Zl 5 Jo.nd) Ql))) (Zf (Zv 6 Jo.nd (Zh G_made (hr.mono (by first | decide | omega)) rfl T.V8.m T.V8.F.kp T.V8.b Zp (Za (Zb 5) (Za (Zb 4) (Za (Zg (Zb 1) Zc) (Za (Zb 3) Zd))))))
 (Zi (ZV (DW.dt (Xp (Zz Xy (Zh G_deep (hr.mono (by first | decide | omega)) rfl T.V3.m T.V3.F.kp T.V3.b Zp (Za (Zb 6) Zd)) Zc) (Y5 (Vj (Jc (Zh G_made_right (hr.mono (by first | decide | omega)) rfl T.JT.m T.JT.F.kp T.JT.b Zp (Za (Zb 0) (Za (Zg (Zb 1) Zc) (Za (Zb 4) (Za (Zb 6) Zd)))))))))) (Zi (Zm JD)) Zw))) PassesOwn.never rfl)
 (Zi (Zm JD)))))), fun xs M Φ h => ?_⟩
 replace h := Zx h
 obtain ⟨x1, x2, rfl, h⟩ := h
 replace h := Jf h
 obtain ⟨p, rfl, b1, b2, b3, rfl, ⟨s1, s2, s3⟩, ⟨h12, h23, hF⟩, hP, h⟩ := h
 walk_at "hd"
 walk_at "rk"
 refine ⟨⟨s1, s2, h12.cov⟩, fun cs M1 hC e1 => ?_⟩
 walk_at "hd"
 walk_at "rk"
 refine ⟨⟨s2, s3, h23.cov⟩, fun cs2 M2 hC2 e2 => ?_⟩
 walk_at "hd"
 walk_at "rk"
 refine ⟨⟨s1, s3, (h12.trans h23).cov⟩, fun cs3 M3 hC3 e3 => ?_⟩
 walk_at "hd"
 walk_at "rk"
 refine ⟨fun i Δ M' => ∃ k4 k5 k6 : Option DV, Δ = [some (.own p), some (.dat (.list [.tuple (b1.map bD), .tuple (b2.map bD), .tuple (b3.map bD)])), some (.dat (.list (cs.map cvD))), some (.dat (.list (cs2.map cvD))), k4, k5, k6] ∧ Pen M' p, ⟨_, _, _, rfl, e3.pen (e2.pen (e1.pen hP))⟩, ?_, ?_⟩
 ·rintro i d Δ M' hd ⟨k4, k5, k6, rfl, P4⟩
  obtain ⟨b, c, eb, ec, rfl⟩ := zip_get hd
  obtain ⟨hh, dc⟩ := hC.2 i b c eb ec
  have mb := List.mem_of_getElem? eb
  have ob := s1.2.2 b mb
  walk_at "rk"
  refine Qz (c := c) (Ba (cs := cs2) ⟨b3, ⟨hh, ob, by omega, hC2⟩, fun c' k1 k2 => ?_⟩)
  walk_at "rk"
  refine Qz (c := c') ⟨by omega, ?_⟩
  walk_at "rk"
  refine Zj (fun z => ?_) fun z => ?_
  ·refine Qz (c := c') ⟨⟨k1, ⟨ob, hF b mb⟩, by omega⟩, P4, fun M5 P5 => ?_⟩
   walk_at "rk"
   exact ⟨_, _, _, rfl, P5⟩
  ·exact ⟨_, _, _, rfl, P4⟩
 ·rintro Δ M' ⟨k4, k5, k6, rfl, P4⟩
  subst_vars
  walk_at "rk"
  exact h _ P4
theorem EV (T : Tx K mg) : ZD P w K mg base CX0 8 T.Ur T.W4 ["_law_shapes", "_law_spot_here"] (lift K WK) := by
 have G_depth : ZD P w K mg base CX0 7 T.BK T.BA ["shape", "spot"] (lift K B9) := OT T
 have G_side : ZD P w K mg base CX0 5 T.E9 T.L6 ["shape", "wobble", "spot"] (lift K Fe) := TV T
 refine okD T.Xz.F Yv (fun xs M Φ h => by obtain ⟨_, _, rfl, _⟩ := Zx h; rfl) fun cdv A outer s H E hr => ⟨_, (Zf (VW 2 false Yv.nd (ZH (sc := Ze JR) (XN := ["_law_shapes", "_law_spot_here", "_law_far", "_law_wobble", "_law_words"]) (N := ["_law_shape", "_law_spot_here"]) (ix := [none, some 1]) rfl rfl (by decide +kernel)) (JG (Zb 0)) (fun C ex s H => (Zl 0 (show List.Nodup (["_law_shape", "_law_spot_here"] : List Str) by decide +kernel))) (fun C ex s H => Z0) (fun C ex s H => (Zh G_depth (hr.mono (by first | decide | omega)) rfl T.WS.m T.WS.F.kp T.WS.b Zp (Za (Zb 0) (Za (Zb 1) Zd)))) rfl)
 (Zf (ZV (DW.dt (Xa (Zz WI (Zg (Zb 2) Zc) (Zg (Zb 2) Zc)) (YK (Zz WI (Zg (Zb 2) Zc) (Zg (Zb 2) Zc))))) (Zi (Zm JD)) Zw)
 (Zf (BP (Zn (Za Zc (Za Zc Zd))) (Zl 3 Yv.nd) (Zf (VW 4 false Yv.nd (ZH (sc := Ze JR) (XN := ["_law_shapes", "_law_spot_here", "_law_far", "_law_wobble", "_law_words"]) (N := ["_law_shape", "_law_wobble", "_law_spot_here"]) (ix := [none, some 3, some 1]) rfl rfl (by decide +kernel)) (JG (Zb 0)) (fun C ex s H => (Zl 0 (show List.Nodup (["_law_shape", "_law_wobble", "_law_spot_here"] : List Str) by decide +kernel))) (fun C ex s H => Z0) (fun C ex s H => (MP (QA (Za QM (Za QM (Za QM Zd)))) (Zh G_side (hr.mono (by first | decide | omega)) rfl T.C9.m T.C9.F.kp T.C9.b Zp (Za (Zb 0) (Za (Zb 1) (Za (Zb 2) Zd)))))) rfl)
 (Zi (ZV (Zz (Fg hr) (Zk Eb rfl T.Cr Hn (Za (Zb 4) Zd)) (Zb 4)) (Zi (Zm JD)) Zw))) PassesOwn.never rfl)
 (Zi (Zm JD))))), fun xs M Φ h => ?_⟩
 replace h := Zx h
 obtain ⟨x1, x2, rfl, h⟩ := h
 replace h := Ys h
 obtain ⟨u, v, rfl, b1, b2, b3, rfl, ⟨s1, s2, s3⟩, ⟨h12, h23⟩, h⟩ := h
 walk_at "hd"
 walk_at "rk"
 refine ⟨s1, fun d1 k1 => ⟨s2, fun d2 k2 => ⟨s3, fun d3 k3 => ?_⟩⟩⟩
 have a12 := k1.more k2 h12
 have a23 := k2.more k3 h23
 walk_at "hd"
 walk_at "rk"
 rw [decide_eq_false (show ¬ d2 < d1 by omega), decide_eq_false (show ¬ d3 < d2 by omega)]
 walk_at "rk"
 walk_at "hd"
 walk_at "rk"
 refine PZ ?_
 walk_at "rk"
 refine three s1 s2 s3 k1 k2 k3 a12 a23 (wb := 0) (by decide) fun _ _ _ _ _ _ => ?_
 walk_at "rk"
 refine three s1 s2 s3 k1 k2 k3 a12 a23 (wb := 2) (by decide) fun _ _ _ _ _ _ => ?_
 walk_at "rk"
 subst_vars
 walk_at "rk"
 exact h
theorem ZbT (T : Tx K mg) : ZD P w K mg base CX0 61 T.ZcE T.ZbG ["_law_script"] (lift K Li) := by
 have G_pen : ZD P w K mg base CX0 1 T.Ts T.SJ ["_law_script", "_law_k"] (lift K E3) := ZcI T
 have G_boxes : ZD P w K mg base CX0 3 T.Bu T.Br ["_law_pen_here"] (lift K GB) := MT T
 have G_greater : ZD P w K mg base CX0 3 T.Ky T.Kj ["_law_pen_here", "_law_boxes_here"] (lift K Km) := EL T
 have G_l_frame : ZD P w K mg base CX0 2 T.Ki T.X3 ["_law_pen_here"] (lift K UH) := D3 T
 have G_laid : ZD P w K mg base CX0 1 T.HE T.HM ["_law_boxes_here", "_law_frame_here"] (lift K Fi) := SX T
 have G_goes_on : ZD P w K mg base CX0 60 T.Kl T.XW ["_law_pen_here", "_law_shapes"] (lift K W2) := EK T
 have G_deeper : ZD P w K mg base CX0 8 T.Ur T.W4 ["_law_shapes", "_law_spot_here"] (lift K WK) := EV T
 have G_spot : ZD P w K mg base CX0 2 T.HD T.Fp ["_law_pen_here", "_law_frame_here"] (lift K Bq) := Sh T
 refine okD T.o_law.F Xo (fun xs M Φ ⟨ns, e, _⟩ => by rw [e]; rfl) fun cdv A outer s H E hr => ⟨_, (Zf (Vg rfl T.Q6 (Za (Zk (Yb rfl) rfl T.KG VE (Za Zc (Za (Zk (Ve rfl) rfl T.Yj JE (Za (Zk Qw rfl T.JH Qx (Za (Zb 0) Zd)) (Za Zc Zd))) Zd))) Zd) (Zl 1 Xo.nd) (Zf (Zv 2 Xo.nd (Zh G_pen (hr.mono (by first | decide | omega)) rfl T.Mq.m T.Mq.F.kp T.Mq.b Zp (Za (Zb 0) (Za (Zb 1) Zd))))
 (Zf (Zv 3 Xo.nd (Zh G_boxes (hr.mono (by first | decide | omega)) rfl T.Uo.m T.Uo.F.kp T.Uo.b Zp (Za (Zb 2) Zd)))
 (Zf (Zv 4 Xo.nd (Zh G_greater (hr.mono (by first | decide | omega)) rfl T.JC.m T.JC.F.kp T.JC.b Zp (Za (Zb 2) (Za (Zb 3) Zd))))
 (Zf (Zv 5 Xo.nd (Zh G_l_frame (hr.mono (by first | decide | omega)) rfl T.Yq.m T.Yq.F.kp T.Yq.b Zp (Za (Zb 2) Zd)))
 (Zf (VW 6 false Xo.nd (ZH (sc := Ze B1) (XN := ["_law_script", "_law_k", "_law_pen_here", "_law_first", "_law_second", "_law_frame_here", "_law_shapes", "_law_turn"]) (N := ["_law_boxes_here", "_law_frame_here"]) (ix := [none, some 5]) rfl rfl (by decide +kernel)) (Kb (Zn (Za (Zb 3) (Za (Zb 4) (Za (Zh G_greater (hr.mono (by first | decide | omega)) rfl T.JC.m T.JC.F.kp T.JC.b Zp (Za (Zb 2) (Za (Zb 4) Zd))) Zd))))) (fun C ex s H => (Zl 0 (show List.Nodup (["_law_boxes_here", "_law_frame_here"] : List Str) by decide +kernel))) (fun C ex s H => Z0) (fun C ex s H => (Zh G_laid (hr.mono (by first | decide | omega)) rfl T.DH.m T.DH.F.kp T.DH.b Zp (Za (Zb 0) (Za (Zb 1) Zd)))) rfl)
 (Zf (ZV (Vj (Jc (Zh G_goes_on (hr.mono (by first | decide | omega)) rfl T.Yz.m T.Yz.F.kp T.Yz.b Zp (Za (Zb 2) (Za (Zb 6) Zd))))) (Zi (Zm JD)) Zw)
 (Zi (Vg rfl T.Q6 (Za Zc Zd) (Zl 7 Xo.nd) (Zi (ZV (Vj (Jc (Zh G_deeper (hr.mono (by first | decide | omega)) rfl T.Xz.m T.Xz.F.kp T.Xz.b Zp (Za (Zb 6) (Za (Zh G_spot (hr.mono (by first | decide | omega)) rfl T.C0.m T.C0.F.kp T.C0.b Zp (Za (Zb 2) (Za (Zb 5) Zd))) Zd))))) (Zi (Zm JD)) Zw)) PassesOwn.never rfl)))))))) PassesOwn.never rfl)
 (Zi (Zm JD))), fun xs M Φ ⟨ns, e, hn, h⟩ => ?_⟩
 subst e
 walk_at "hd"
 walk_at "rk"
 rw [List.length_map]
 refine ⟨⟨by omega, by omega⟩, fun i Δ M' => ∃ k1 k2 k3 k4 k5 k6 k7 : Option DV, Δ = [some (.dat (.list (ns.map PyData.int))), k1, k2, k3, k4, k5, k6, k7], ⟨none, none, none, none, none, none, none, rfl⟩, ?_, ?_⟩
 ·rintro i Δ M' hi ⟨k1, k2, k3, k4, k5, k6, k7, rfl⟩
  rw [XI]
  walk_at "hd"
  walk_at "rk"
  refine ⟨by omega, fun p o hp ho => ?_⟩
  walk_at "hd"
  walk_at "rk"
  refine ⟨Pen.Z8 ho, fun bs M1 hg hP => ?_⟩
  walk_at "hd"
  walk_at "rk"
  refine ⟨⟨hg, hP⟩, fun cs M2 hg2 h12 hP2 => ?_⟩
  walk_at "hd"
  walk_at "rk"
  refine ⟨hP2, fun t ox oy M3 hf hP3 => ?_⟩
  walk_at "hd"
  walk_at "rk"
  refine ⟨⟨hg2, hP3⟩, fun ds M4 hg3 h23 hP4 => ⟨hg, hg2, hg3, ?_⟩⟩
  have ss := And.intro (LF hf hg) (And.intro (LF hf hg2) (LF hf hg3))
  have l12 := h12.laid hf
  have l23 := h23.laid hf
  walk_at "hd"
  walk_at "rk"
  refine ⟨_, _, _, rfl, ss, ⟨l12, l23, fun b hb => Sq hf hg hb⟩, hP4, fun M5 hP5 => ?_⟩
  walk_at "rk"
  subst_vars
  walk_at "rk"
  refine ⟨⟨by decide, by decide⟩, fun j Δ M6 => ∃ k7 : Option DV, Δ = [some (.dat (.list (ns.map PyData.int))), some (.dat (.int (i : Int))), some (.own p), some (.dat (.list (bs.map bD))), some (.dat (.list (cs.map bD))), some (.dat (.tuple [.int t, .int ox, .int oy])), some (.dat (.list [.tuple ((bs.map (Vn t ox oy)).map bD), .tuple ((cs.map (Vn t ox oy)).map bD), .tuple ((ds.map (Vn t ox oy)).map bD)])), k7] ∧ Pen M6 p, ⟨_, rfl, hP5⟩, ?_, ?_⟩
  ·rintro j Δ M6 hj ⟨k7, rfl, hP6⟩
   walk_at "rk"
   refine ⟨hf, hP6, fun u v M7 f7 => ?_⟩
   walk_at "rk"
   refine ⟨_, _, _, rfl, ss, ⟨l12, l23⟩, ?_⟩
   walk_at "rk"
   exact ⟨_, rfl, f7.1⟩
  ·rintro Δ M6 ⟨k7, rfl, hP6⟩
   exact ⟨_, _, _, _, _, _, _, rfl⟩
 ·rintro Δ M' ⟨k1, k2, k3, k4, k5, k6, k7, rfl⟩
  subst_vars
  walk_at "rk"
  exact h _
end
theorem W3 {α : Type} {l : List α} (h : l.length = 1) : ∃ a0, l = [a0] := by
 match l, h with
 | [a0], _ => exact ⟨a0, rfl⟩
theorem QX {α : Type} {l : List α} (h : l.length = 2) : ∃ a0 a1, l = [a0, a1] := by
 match l, h with
 | [a0, a1], _ => exact ⟨a0, a1, rfl⟩
theorem Xs {α : Type} {l : List α} (h : l.length = 3) : ∃ a0 a1 a2, l = [a0, a1, a2] := by
 match l, h with
 | [a0, a1, a2], _ => exact ⟨a0, a1, a2, rfl⟩
theorem Zcf {α : Type} {l : List α} (h : l.length = 4) : ∃ a0 a1 a2 a3, l = [a0, a1, a2, a3] := by
 match l, h with
 | [a0, a1, a2, a3], _ => exact ⟨a0, a1, a2, a3, rfl⟩
theorem all_mk {l : PySem.W.OpenLaw} {w : World} {K : PySem.W.Frag} {h : Heap} {mg : Str → Option Value} {fa : Addr} (X : K.In h) (G : h.Ns mainGlobals mg) (hfa : mg "law" = some (.ref fa))
  {f0 : Addr} {od0 an0 : Option Addr} {sl0 : Array (Option Value)} {oc0 kV0 dc0 pm0 cd0 ct0 : Value} {f1 : Addr} {od1 an1 : Option Addr} {sl1 : Array (Option Value)} {oc1 kV1 dc1 pm1 cd1 ct1 : Value} {f2 : Addr} {od2 an2 : Option Addr} {sl2 : Array (Option Value)} {oc2 kV2 dc2 pm2 cd2 ct2 : Value} {f3 : Addr} {od3 an3 : Option Addr} {sl3 : Array (Option Value)} {oc3 kV3 dc3 pm3 cd3 ct3 : Value} {f4 : Addr} {od4 an4 : Option Addr} {sl4 : Array (Option Value)} {oc4 kV4 dc4 pm4 cd4 ct4 : Value} {f5 : Addr} {od5 an5 : Option Addr} {sl5 : Array (Option Value)} {oc5 kV5 dc5 pm5 cd5 ct5 : Value} {f6 : Addr} {od6 an6 : Option Addr} {sl6 : Array (Option Value)} {oc6 kV6 dc6 pm6 cd6 ct6 : Value} {f7 : Addr} {od7 an7 : Option Addr} {sl7 : Array (Option Value)} {oc7 kV7 dc7 pm7 cd7 ct7 : Value} {f8 : Addr} {od8 an8 : Option Addr} {sl8 : Array (Option Value)} {oc8 kV8 dc8 pm8 cd8 ct8 : Value} {f9 : Addr} {od9 an9 : Option Addr} {sl9 : Array (Option Value)} {oc9 kV9 dc9 pm9 cd9 ct9 : Value} {f10 : Addr} {od10 an10 : Option Addr} {sl10 : Array (Option Value)} {oc10 kV10 dc10 pm10 cd10 ct10 : Value} {f11 : Addr} {od11 an11 : Option Addr} {sl11 : Array (Option Value)} {oc11 kV11 dc11 pm11 cd11 ct11 : Value} {f12 : Addr} {od12 an12 : Option Addr} {sl12 : Array (Option Value)} {oc12 kV12 dc12 pm12 cd12 ct12 : Value} {f13 : Addr} {od13 an13 : Option Addr} {sl13 : Array (Option Value)} {oc13 kV13 dc13 pm13 cd13 ct13 : Value} {f14 : Addr} {od14 an14 : Option Addr} {sl14 : Array (Option Value)} {oc14 kV14 dc14 pm14 cd14 ct14 : Value} {f15 : Addr} {od15 an15 : Option Addr} {sl15 : Array (Option Value)} {oc15 kV15 dc15 pm15 cd15 ct15 : Value} {f16 : Addr} {od16 an16 : Option Addr} {sl16 : Array (Option Value)} {oc16 kV16 dc16 pm16 cd16 ct16 : Value} {f17 : Addr} {od17 an17 : Option Addr} {sl17 : Array (Option Value)} {oc17 kV17 dc17 pm17 cd17 ct17 : Value} {f18 : Addr} {od18 an18 : Option Addr} {sl18 : Array (Option Value)} {oc18 kV18 dc18 pm18 cd18 ct18 : Value} {f19 : Addr} {od19 an19 : Option Addr} {sl19 : Array (Option Value)} {oc19 kV19 dc19 pm19 cd19 ct19 : Value} {f20 : Addr} {od20 an20 : Option Addr} {sl20 : Array (Option Value)} {oc20 kV20 dc20 pm20 cd20 ct20 : Value} {f21 : Addr} {od21 an21 : Option Addr} {sl21 : Array (Option Value)} {oc21 kV21 dc21 pm21 cd21 ct21 : Value} {f22 : Addr} {od22 an22 : Option Addr} {sl22 : Array (Option Value)} {oc22 kV22 dc22 pm22 cd22 ct22 : Value} {f23 : Addr} {od23 an23 : Option Addr} {sl23 : Array (Option Value)} {oc23 kV23 dc23 pm23 cd23 ct23 : Value} {f24 : Addr} {od24 an24 : Option Addr} {sl24 : Array (Option Value)} {oc24 kV24 dc24 pm24 cd24 ct24 : Value} {f25 : Addr} {od25 an25 : Option Addr} {sl25 : Array (Option Value)} {oc25 kV25 dc25 pm25 cd25 ct25 : Value} {f26 : Addr} {od26 an26 : Option Addr} {sl26 : Array (Option Value)} {oc26 kV26 dc26 pm26 cd26 ct26 : Value} {f27 : Addr} {od27 an27 : Option Addr} {sl27 : Array (Option Value)} {oc27 kV27 dc27 pm27 cd27 ct27 : Value} {f28 : Addr} {od28 an28 : Option Addr} {sl28 : Array (Option Value)} {oc28 kV28 dc28 pm28 cd28 ct28 : Value} {f29 : Addr} {od29 an29 : Option Addr} {sl29 : Array (Option Value)} {oc29 kV29 dc29 pm29 cd29 ct29 : Value} {f30 : Addr} {od30 an30 : Option Addr} {sl30 : Array (Option Value)} {oc30 kV30 dc30 pm30 cd30 ct30 : Value} {f31 : Addr} {od31 an31 : Option Addr} {sl31 : Array (Option Value)} {oc31 kV31 dc31 pm31 cd31 ct31 : Value} {f32 : Addr} {od32 an32 : Option Addr} {sl32 : Array (Option Value)} {oc32 kV32 dc32 pm32 cd32 ct32 : Value} {f33 : Addr} {od33 an33 : Option Addr} {sl33 : Array (Option Value)} {oc33 kV33 dc33 pm33 cd33 ct33 : Value} {f34 : Addr} {od34 an34 : Option Addr} {sl34 : Array (Option Value)} {oc34 kV34 dc34 pm34 cd34 ct34 : Value} {f35 : Addr} {od35 an35 : Option Addr} {sl35 : Array (Option Value)} {oc35 kV35 dc35 pm35 cd35 ct35 : Value} {f36 : Addr} {od36 an36 : Option Addr} {sl36 : Array (Option Value)} {oc36 kV36 dc36 pm36 cd36 ct36 : Value} {f37 : Addr} {od37 an37 : Option Addr} {sl37 : Array (Option Value)} {oc37 kV37 dc37 pm37 cd37 ct37 : Value} {f38 : Addr} {od38 an38 : Option Addr} {sl38 : Array (Option Value)} {oc38 kV38 dc38 pm38 cd38 ct38 : Value} {f39 : Addr} {od39 an39 : Option Addr} {sl39 : Array (Option Value)} {oc39 kV39 dc39 pm39 cd39 ct39 : Value} {f40 : Addr} {od40 an40 : Option Addr} {sl40 : Array (Option Value)} {oc40 kV40 dc40 pm40 cd40 ct40 : Value} {f41 : Addr} {od41 an41 : Option Addr} {sl41 : Array (Option Value)} {oc41 kV41 dc41 pm41 cd41 ct41 : Value} {f42 : Addr} {od42 an42 : Option Addr} {sl42 : Array (Option Value)} {oc42 kV42 dc42 pm42 cd42 ct42 : Value} {f43 : Addr} {od43 an43 : Option Addr} {sl43 : Array (Option Value)} {oc43 kV43 dc43 pm43 cd43 ct43 : Value} {f44 : Addr} {od44 an44 : Option Addr} {sl44 : Array (Option Value)} {oc44 kV44 dc44 pm44 cd44 ct44 : Value} {f45 : Addr} {od45 an45 : Option Addr} {sl45 : Array (Option Value)} {oc45 kV45 dc45 pm45 cd45 ct45 : Value} {f46 : Addr} {od46 an46 : Option Addr} {sl46 : Array (Option Value)} {oc46 kV46 dc46 pm46 cd46 ct46 : Value} {f47 : Addr} {od47 an47 : Option Addr} {sl47 : Array (Option Value)} {oc47 kV47 dc47 pm47 cd47 ct47 : Value} {f48 : Addr} {od48 an48 : Option Addr} {sl48 : Array (Option Value)} {oc48 kV48 dc48 pm48 cd48 ct48 : Value} {f49 : Addr} {od49 an49 : Option Addr} {sl49 : Array (Option Value)} {oc49 kV49 dc49 pm49 cd49 ct49 : Value} {f50 : Addr} {od50 an50 : Option Addr} {sl50 : Array (Option Value)} {oc50 kV50 dc50 pm50 cd50 ct50 : Value}
  (a0 : PySem.W.nsIn K mainGlobals "is_whole" = some (some (.ref f0))) (l0 : K.lookup f0 = some ⟨oc0, od0, .func (PySem.W.fnOf "is_whole" "is_whole" (Zt Jp) (Zq Jp) (Ze Jp) .none kV0 dc0 pm0 an0 cd0 ct0), sl0⟩) (c0 : PySem.W.codeIn K cd0 "is_whole" = true) (k0 : PySem.W.keepIn K (.ref f0) = true)
  (a1 : PySem.W.nsIn K mainGlobals "has_spots" = some (some (.ref f1))) (l1 : K.lookup f1 = some ⟨oc1, od1, .func (PySem.W.fnOf "has_spots" "has_spots" (Zt Q1) (Zq Q1) (Ze Q1) .none kV1 dc1 pm1 an1 cd1 ct1), sl1⟩) (c1 : PySem.W.codeIn K cd1 "has_spots" = true) (k1 : PySem.W.keepIn K (.ref f1) = true)
  (a2 : PySem.W.nsIn K mainGlobals "has" = some (some (.ref f2))) (l2 : K.lookup f2 = some ⟨oc2, od2, .func (PySem.W.fnOf "has" "has" (Zt D4) (Zq D4) (Ze D4) .none kV2 dc2 pm2 an2 cd2 ct2), sl2⟩) (c2 : PySem.W.codeIn K cd2 "has" = true) (k2 : PySem.W.keepIn K (.ref f2) = true)
  (a3 : PySem.W.nsIn K mainGlobals "has_all" = some (some (.ref f3))) (l3 : K.lookup f3 = some ⟨oc3, od3, .func (PySem.W.fnOf "has_all" "has_all" (Zt J3) (Zq J3) (Ze J3) .none kV3 dc3 pm3 an3 cd3 ct3), sl3⟩) (c3 : PySem.W.codeIn K cd3 "has_all" = true) (k3 : PySem.W.keepIn K (.ref f3) = true)
  (a4 : PySem.W.nsIn K mainGlobals "steps_to" = some (some (.ref f4))) (l4 : K.lookup f4 = some ⟨oc4, od4, .func (PySem.W.fnOf "steps_to" "steps_to" (Zt Jm) (Zq Jm) (Ze Jm) .none kV4 dc4 pm4 an4 cd4 ct4), sl4⟩) (c4 : PySem.W.codeIn K cd4 "steps_to" = true) (k4 : PySem.W.keepIn K (.ref f4) = true)
  (a5 : PySem.W.nsIn K mainGlobals "steps_between" = some (some (.ref f5))) (l5 : K.lookup f5 = some ⟨oc5, od5, .func (PySem.W.fnOf "steps_between" "steps_between" (Zt Z4) (Zq Z4) (Ze Z4) .none kV5 dc5 pm5 an5 cd5 ct5), sl5⟩) (c5 : PySem.W.codeIn K cd5 "steps_between" = true) (k5 : PySem.W.keepIn K (.ref f5) = true)
  (a6 : PySem.W.nsIn K mainGlobals "gap" = some (some (.ref f6))) (l6 : K.lookup f6 = some ⟨oc6, od6, .func (PySem.W.fnOf "gap" "gap" (Zt D8) (Zq D8) (Ze D8) .none kV6 dc6 pm6 an6 cd6 ct6), sl6⟩) (c6 : PySem.W.codeIn K cd6 "gap" = true) (k6 : PySem.W.keepIn K (.ref f6) = true)
  (a7 : PySem.W.nsIn K mainGlobals "square" = some (some (.ref f7))) (l7 : K.lookup f7 = some ⟨oc7, od7, .func (PySem.W.fnOf "square" "square" (Zt VO) (Zq VO) (Ze VO) .none kV7 dc7 pm7 an7 cd7 ct7), sl7⟩) (c7 : PySem.W.codeIn K cd7 "square" = true) (k7 : PySem.W.keepIn K (.ref f7) = true)
  (a8 : PySem.W.nsIn K mainGlobals "up_to" = some (some (.ref f8))) (l8 : K.lookup f8 = some ⟨oc8, od8, .func (PySem.W.fnOf "up_to" "up_to" (Zt Xf) (Zq Xf) (Ze Xf) .none kV8 dc8 pm8 an8 cd8 ct8), sl8⟩) (c8 : PySem.W.codeIn K cd8 "up_to" = true) (k8 : PySem.W.keepIn K (.ref f8) = true)
  (a9 : PySem.W.nsIn K mainGlobals "onward_from" = some (some (.ref f9))) (l9 : K.lookup f9 = some ⟨oc9, od9, .func (PySem.W.fnOf "onward_from" "onward_from" (Zt Qu) (Zq Qu) (Ze Qu) .none kV9 dc9 pm9 an9 cd9 ct9), sl9⟩) (c9 : PySem.W.codeIn K cd9 "onward_from" = true) (k9 : PySem.W.keepIn K (.ref f9) = true)
  (a10 : PySem.W.nsIn K mainGlobals "common" = some (some (.ref f10))) (l10 : K.lookup f10 = some ⟨oc10, od10, .func (PySem.W.fnOf "common" "common" (Zt VN) (Zq VN) (Ze VN) .none kV10 dc10 pm10 an10 cd10 ct10), sl10⟩) (c10 : PySem.W.codeIn K cd10 "common" = true) (k10 : PySem.W.keepIn K (.ref f10) = true)
  (a11 : PySem.W.nsIn K mainGlobals "cut_out" = some (some (.ref f11))) (l11 : K.lookup f11 = some ⟨oc11, od11, .func (PySem.W.fnOf "cut_out" "cut_out" (Zt JB) (Zq JB) (Ze JB) .none kV11 dc11 pm11 an11 cd11 ct11), sl11⟩) (c11 : PySem.W.codeIn K cd11 "cut_out" = true) (k11 : PySem.W.keepIn K (.ref f11) = true)
  (a12 : PySem.W.nsIn K mainGlobals "left_over" = some (some (.ref f12))) (l12 : K.lookup f12 = some ⟨oc12, od12, .func (PySem.W.fnOf "left_over" "left_over" (Zt QZ) (Zq QZ) (Ze QZ) .none kV12 dc12 pm12 an12 cd12 ct12), sl12⟩) (c12 : PySem.W.codeIn K cd12 "left_over" = true) (k12 : PySem.W.keepIn K (.ref f12) = true)
  (a13 : PySem.W.nsIn K mainGlobals "covered" = some (some (.ref f13))) (l13 : K.lookup f13 = some ⟨oc13, od13, .func (PySem.W.fnOf "covered" "covered" (Zt Jw) (Zq Jw) (Ze Jw) .none kV13 dc13 pm13 an13 cd13 ct13), sl13⟩) (c13 : PySem.W.codeIn K cd13 "covered" = true) (k13 : PySem.W.keepIn K (.ref f13) = true)
  (a14 : PySem.W.nsIn K mainGlobals "cover_of" = some (some (.ref f14))) (l14 : K.lookup f14 = some ⟨oc14, od14, .func (PySem.W.fnOf "cover_of" "cover_of" (Zt Jq) (Zq Jq) (Ze Jq) .none kV14 dc14 pm14 an14 cd14 ct14), sl14⟩) (c14 : PySem.W.codeIn K cd14 "cover_of" = true) (k14 : PySem.W.keepIn K (.ref f14) = true)
  (a15 : PySem.W.nsIn K mainGlobals "cut_places" = some (some (.ref f15))) (l15 : K.lookup f15 = some ⟨oc15, od15, .func (PySem.W.fnOf "cut_places" "cut_places" (Zt Qo) (Zq Qo) (Ze Qo) .none kV15 dc15 pm15 an15 cd15 ct15), sl15⟩) (c15 : PySem.W.codeIn K cd15 "cut_places" = true) (k15 : PySem.W.keepIn K (.ref f15) = true)
  (a16 : PySem.W.nsIn K mainGlobals "holds_cover" = some (some (.ref f16))) (l16 : K.lookup f16 = some ⟨oc16, od16, .func (PySem.W.fnOf "holds_cover" "holds_cover" (Zt Qv) (Zq Qv) (Ze Qv) .none kV16 dc16 pm16 an16 cd16 ct16), sl16⟩) (c16 : PySem.W.codeIn K cd16 "holds_cover" = true) (k16 : PySem.W.keepIn K (.ref f16) = true)
  (a17 : PySem.W.nsIn K mainGlobals "is_number_of" = some (some (.ref f17))) (l17 : K.lookup f17 = some ⟨oc17, od17, .func (PySem.W.fnOf "is_number_of" "is_number_of" (Zt Qd) (Zq Qd) (Ze Qd) .none kV17 dc17 pm17 an17 cd17 ct17), sl17⟩) (c17 : PySem.W.codeIn K cd17 "is_number_of" = true) (k17 : PySem.W.keepIn K (.ref f17) = true)
  (a18 : PySem.W.nsIn K mainGlobals "cuts" = some (some (.ref f18))) (l18 : K.lookup f18 = some ⟨oc18, od18, .func (PySem.W.fnOf "cuts" "cuts" (Zt Wu) (Zq Wu) (Ze Wu) .none kV18 dc18 pm18 an18 cd18 ct18), sl18⟩) (c18 : PySem.W.codeIn K cd18 "cuts" = true) (k18 : PySem.W.keepIn K (.ref f18) = true)
  (a19 : PySem.W.nsIn K mainGlobals "within" = some (some (.ref f19))) (l19 : K.lookup f19 = some ⟨oc19, od19, .func (PySem.W.fnOf "within" "within" (Zt Jl) (Zq Jl) (Ze Jl) .none kV19 dc19 pm19 an19 cd19 ct19), sl19⟩) (c19 : PySem.W.codeIn K cd19 "within" = true) (k19 : PySem.W.keepIn K (.ref f19) = true)
  (a20 : PySem.W.nsIn K mainGlobals "lies_in" = some (some (.ref f20))) (l20 : K.lookup f20 = some ⟨oc20, od20, .func (PySem.W.fnOf "lies_in" "lies_in" (Zt Ju) (Zq Ju) (Ze Ju) .none kV20 dc20 pm20 an20 cd20 ct20), sl20⟩) (c20 : PySem.W.codeIn K cd20 "lies_in" = true) (k20 : PySem.W.keepIn K (.ref f20) = true)
  (a21 : PySem.W.nsIn K mainGlobals "depth" = some (some (.ref f21))) (l21 : K.lookup f21 = some ⟨oc21, od21, .func (PySem.W.fnOf "depth" "depth" (Zt YT) (Zq YT) (Ze YT) .none kV21 dc21 pm21 an21 cd21 ct21), sl21⟩) (c21 : PySem.W.codeIn K cd21 "depth" = true) (k21 : PySem.W.keepIn K (.ref f21) = true)
  (a22 : PySem.W.nsIn K mainGlobals "side" = some (some (.ref f22))) (l22 : K.lookup f22 = some ⟨oc22, od22, .func (PySem.W.fnOf "side" "side" (Zt Wo) (Zq Wo) (Ze Wo) .none kV22 dc22 pm22 an22 cd22 ct22), sl22⟩) (c22 : PySem.W.codeIn K cd22 "side" = true) (k22 : PySem.W.keepIn K (.ref f22) = true)
  (a23 : PySem.W.nsIn K mainGlobals "other_side" = some (some (.ref f23))) (l23 : K.lookup f23 = some ⟨oc23, od23, .func (PySem.W.fnOf "other_side" "other_side" (Zt QI) (Zq QI) (Ze QI) .none kV23 dc23 pm23 an23 cd23 ct23), sl23⟩) (c23 : PySem.W.codeIn K cd23 "other_side" = true) (k23 : PySem.W.keepIn K (.ref f23) = true)
  (a24 : PySem.W.nsIn K mainGlobals "frame" = some (some (.ref f24))) (l24 : K.lookup f24 = some ⟨oc24, od24, .func (PySem.W.fnOf "frame" "frame" (Zt JV) (Zq JV) (Ze JV) .none kV24 dc24 pm24 an24 cd24 ct24), sl24⟩) (c24 : PySem.W.codeIn K cd24 "frame" = true) (k24 : PySem.W.keepIn K (.ref f24) = true)
  (a25 : PySem.W.nsIn K mainGlobals "steps_away" = some (some (.ref f25))) (l25 : K.lookup f25 = some ⟨oc25, od25, .func (PySem.W.fnOf "steps_away" "steps_away" (Zt Qj) (Zq Qj) (Ze Qj) .none kV25 dc25 pm25 an25 cd25 ct25), sl25⟩) (c25 : PySem.W.codeIn K cd25 "steps_away" = true) (k25 : PySem.W.keepIn K (.ref f25) = true)
  (a26 : PySem.W.nsIn K mainGlobals "_law_pen" = some (some (.ref f26))) (l26 : K.lookup f26 = some ⟨oc26, od26, .func (PySem.W.fnOf "_law_pen" "_law_pen" (Zt DU) (Zq DU) (Ze DU) .none kV26 dc26 pm26 an26 cd26 ct26), sl26⟩) (c26 : PySem.W.codeIn K cd26 "_law_pen" = true) (k26 : PySem.W.keepIn K (.ref f26) = true)
  (a27 : PySem.W.nsIn K mainGlobals "_law_draw" = some (some (.ref f27))) (l27 : K.lookup f27 = some ⟨oc27, od27, .func (PySem.W.fnOf "_law_draw" "_law_draw" (Zt K1) (Zq K1) (Ze K1) .none kV27 dc27 pm27 an27 cd27 ct27), sl27⟩) (c27 : PySem.W.codeIn K cd27 "_law_draw" = true) (k27 : PySem.W.keepIn K (.ref f27) = true)
  (a28 : PySem.W.nsIn K mainGlobals "_law_hole" = some (some (.ref f28))) (l28 : K.lookup f28 = some ⟨oc28, od28, .func (PySem.W.fnOf "_law_hole" "_law_hole" (Zt KN) (Zq KN) (Ze KN) .none kV28 dc28 pm28 an28 cd28 ct28), sl28⟩) (c28 : PySem.W.codeIn K cd28 "_law_hole" = true) (k28 : PySem.W.keepIn K (.ref f28) = true)
  (a29 : PySem.W.nsIn K mainGlobals "_law_box" = some (some (.ref f29))) (l29 : K.lookup f29 = some ⟨oc29, od29, .func (PySem.W.fnOf "_law_box" "_law_box" (Zt EA) (Zq EA) (Ze EA) .none kV29 dc29 pm29 an29 cd29 ct29), sl29⟩) (c29 : PySem.W.codeIn K cd29 "_law_box" = true) (k29 : PySem.W.keepIn K (.ref f29) = true)
  (a30 : PySem.W.nsIn K mainGlobals "_law_boxes" = some (some (.ref f30))) (l30 : K.lookup f30 = some ⟨oc30, od30, .func (PySem.W.fnOf "_law_boxes" "_law_boxes" (Zt Xc) (Zq Xc) (Ze Xc) .none kV30 dc30 pm30 an30 cd30 ct30), sl30⟩) (c30 : PySem.W.codeIn K cd30 "_law_boxes" = true) (k30 : PySem.W.keepIn K (.ref f30) = true)
  (a31 : PySem.W.nsIn K mainGlobals "_law_frame" = some (some (.ref f31))) (l31 : K.lookup f31 = some ⟨oc31, od31, .func (PySem.W.fnOf "_law_frame" "_law_frame" (Zt Jv) (Zq Jv) (Ze Jv) .none kV31 dc31 pm31 an31 cd31 ct31), sl31⟩) (c31 : PySem.W.codeIn K cd31 "_law_frame" = true) (k31 : PySem.W.keepIn K (.ref f31) = true)
  (a32 : PySem.W.nsIn K mainGlobals "_law_laid" = some (some (.ref f32))) (l32 : K.lookup f32 = some ⟨oc32, od32, .func (PySem.W.fnOf "_law_laid" "_law_laid" (Zt Wc) (Zq Wc) (Ze Wc) .none kV32 dc32 pm32 an32 cd32 ct32), sl32⟩) (c32 : PySem.W.codeIn K cd32 "_law_laid" = true) (k32 : PySem.W.keepIn K (.ref f32) = true)
  (a33 : PySem.W.nsIn K mainGlobals "_law_spot" = some (some (.ref f33))) (l33 : K.lookup f33 = some ⟨oc33, od33, .func (PySem.W.fnOf "_law_spot" "_law_spot" (Zt Wn) (Zq Wn) (Ze Wn) .none kV33 dc33 pm33 an33 cd33 ct33), sl33⟩) (c33 : PySem.W.codeIn K cd33 "_law_spot" = true) (k33 : PySem.W.keepIn K (.ref f33) = true)
  (a34 : PySem.W.nsIn K mainGlobals "_law_has" = some (some (.ref f34))) (l34 : K.lookup f34 = some ⟨oc34, od34, .func (PySem.W.fnOf "_law_has" "_law_has" (Zt YY) (Zq YY) (Ze YY) .none kV34 dc34 pm34 an34 cd34 ct34), sl34⟩) (c34 : PySem.W.codeIn K cd34 "_law_has" = true) (k34 : PySem.W.keepIn K (.ref f34) = true)
  (a35 : PySem.W.nsIn K mainGlobals "_law_parts" = some (some (.ref f35))) (l35 : K.lookup f35 = some ⟨oc35, od35, .func (PySem.W.fnOf "_law_parts" "_law_parts" (Zt Xb) (Zq Xb) (Ze Xb) .none kV35 dc35 pm35 an35 cd35 ct35), sl35⟩) (c35 : PySem.W.codeIn K cd35 "_law_parts" = true) (k35 : PySem.W.keepIn K (.ref f35) = true)
  (a36 : PySem.W.nsIn K mainGlobals "_law_whole" = some (some (.ref f36))) (l36 : K.lookup f36 = some ⟨oc36, od36, .func (PySem.W.fnOf "_law_whole" "_law_whole" (Zt Y2) (Zq Y2) (Ze Y2) .none kV36 dc36 pm36 an36 cd36 ct36), sl36⟩) (c36 : PySem.W.codeIn K cd36 "_law_whole" = true) (k36 : PySem.W.keepIn K (.ref f36) = true)
  (a37 : PySem.W.nsIn K mainGlobals "_law_leaf_holds" = some (some (.ref f37))) (l37 : K.lookup f37 = some ⟨oc37, od37, .func (PySem.W.fnOf "_law_leaf_holds" "_law_leaf_holds" (Zt QJ) (Zq QJ) (Ze QJ) .none kV37 dc37 pm37 an37 cd37 ct37), sl37⟩) (c37 : PySem.W.codeIn K cd37 "_law_leaf_holds" = true) (k37 : PySem.W.keepIn K (.ref f37) = true)
  (a38 : PySem.W.nsIn K mainGlobals "_law_holds" = some (some (.ref f38))) (l38 : K.lookup f38 = some ⟨oc38, od38, .func (PySem.W.fnOf "_law_holds" "_law_holds" (Zt Xd) (Zq Xd) (Ze Xd) .none kV38 dc38 pm38 an38 cd38 ct38), sl38⟩) (c38 : PySem.W.codeIn K cd38 "_law_holds" = true) (k38 : PySem.W.keepIn K (.ref f38) = true)
  (a39 : PySem.W.nsIn K mainGlobals "_law_touch" = some (some (.ref f39))) (l39 : K.lookup f39 = some ⟨oc39, od39, .func (PySem.W.fnOf "_law_touch" "_law_touch" (Zt YZ) (Zq YZ) (Ze YZ) .none kV39 dc39 pm39 an39 cd39 ct39), sl39⟩) (c39 : PySem.W.codeIn K cd39 "_law_touch" = true) (k39 : PySem.W.keepIn K (.ref f39) = true)
  (a40 : PySem.W.nsIn K mainGlobals "_law_greater" = some (some (.ref f40))) (l40 : K.lookup f40 = some ⟨oc40, od40, .func (PySem.W.fnOf "_law_greater" "_law_greater" (Zt Qs) (Zq Qs) (Ze Qs) .none kV40 dc40 pm40 an40 cd40 ct40), sl40⟩) (c40 : PySem.W.codeIn K cd40 "_law_greater" = true) (k40 : PySem.W.keepIn K (.ref f40) = true)
  (a41 : PySem.W.nsIn K mainGlobals "_law_less" = some (some (.ref f41))) (l41 : K.lookup f41 = some ⟨oc41, od41, .func (PySem.W.fnOf "_law_less" "_law_less" (Zt Wf) (Zq Wf) (Ze Wf) .none kV41 dc41 pm41 an41 cd41 ct41), sl41⟩) (c41 : PySem.W.codeIn K cd41 "_law_less" = true) (k41 : PySem.W.keepIn K (.ref f41) = true)
  (a42 : PySem.W.nsIn K mainGlobals "_law_made" = some (some (.ref f42))) (l42 : K.lookup f42 = some ⟨oc42, od42, .func (PySem.W.fnOf "_law_made" "_law_made" (Zt Wb) (Zq Wb) (Ze Wb) .none kV42 dc42 pm42 an42 cd42 ct42), sl42⟩) (c42 : PySem.W.codeIn K cd42 "_law_made" = true) (k42 : PySem.W.keepIn K (.ref f42) = true)
  (a43 : PySem.W.nsIn K mainGlobals "_law_deep" = some (some (.ref f43))) (l43 : K.lookup f43 = some ⟨oc43, od43, .func (PySem.W.fnOf "_law_deep" "_law_deep" (Zt K5) (Zq K5) (Ze K5) .none kV43 dc43 pm43 an43 cd43 ct43), sl43⟩) (c43 : PySem.W.codeIn K cd43 "_law_deep" = true) (k43 : PySem.W.keepIn K (.ref f43) = true)
  (a44 : PySem.W.nsIn K mainGlobals "_law_papers" = some (some (.ref f44))) (l44 : K.lookup f44 = some ⟨oc44, od44, .func (PySem.W.fnOf "_law_papers" "_law_papers" (Zt VZ) (Zq VZ) (Ze VZ) .none kV44 dc44 pm44 an44 cd44 ct44), sl44⟩) (c44 : PySem.W.codeIn K cd44 "_law_papers" = true) (k44 : PySem.W.keepIn K (.ref f44) = true)
  (a45 : PySem.W.nsIn K mainGlobals "_law_part" = some (some (.ref f45))) (l45 : K.lookup f45 = some ⟨oc45, od45, .func (PySem.W.fnOf "_law_part" "_law_part" (Zt Xh) (Zq Xh) (Ze Xh) .none kV45 dc45 pm45 an45 cd45 ct45), sl45⟩) (c45 : PySem.W.codeIn K cd45 "_law_part" = true) (k45 : PySem.W.keepIn K (.ref f45) = true)
  (a46 : PySem.W.nsIn K mainGlobals "_law_joined" = some (some (.ref f46))) (l46 : K.lookup f46 = some ⟨oc46, od46, .func (PySem.W.fnOf "_law_joined" "_law_joined" (Zt VS) (Zq VS) (Ze VS) .none kV46 dc46 pm46 an46 cd46 ct46), sl46⟩) (c46 : PySem.W.codeIn K cd46 "_law_joined" = true) (k46 : PySem.W.keepIn K (.ref f46) = true)
  (a47 : PySem.W.nsIn K mainGlobals "_law_made_right" = some (some (.ref f47))) (l47 : K.lookup f47 = some ⟨oc47, od47, .func (PySem.W.fnOf "_law_made_right" "_law_made_right" (Zt QK) (Zq QK) (Ze QK) .none kV47 dc47 pm47 an47 cd47 ct47), sl47⟩) (c47 : PySem.W.codeIn K cd47 "_law_made_right" = true) (k47 : PySem.W.keepIn K (.ref f47) = true)
  (a48 : PySem.W.nsIn K mainGlobals "_law_goes_on" = some (some (.ref f48))) (l48 : K.lookup f48 = some ⟨oc48, od48, .func (PySem.W.fnOf "_law_goes_on" "_law_goes_on" (Zt J2) (Zq J2) (Ze J2) .none kV48 dc48 pm48 an48 cd48 ct48), sl48⟩) (c48 : PySem.W.codeIn K cd48 "_law_goes_on" = true) (k48 : PySem.W.keepIn K (.ref f48) = true)
  (a49 : PySem.W.nsIn K mainGlobals "_law_deeper" = some (some (.ref f49))) (l49 : K.lookup f49 = some ⟨oc49, od49, .func (PySem.W.fnOf "_law_deeper" "_law_deeper" (Zt JR) (Zq JR) (Ze JR) .none kV49 dc49 pm49 an49 cd49 ct49), sl49⟩) (c49 : PySem.W.codeIn K cd49 "_law_deeper" = true) (k49 : PySem.W.keepIn K (.ref f49) = true)
  (a50 : PySem.W.nsIn K mainGlobals "law" = some (some (.ref f50))) (l50 : K.lookup f50 = some ⟨oc50, od50, .func (PySem.W.fnOf "law" "law" (Zt B1) (Zq B1) (Ze B1) .none kV50 dc50 pm50 an50 cd50 ct50), sl50⟩) (c50 : PySem.W.codeIn K cd50 "law" = true) (k50 : PySem.W.keepIn K (.ref f50) = true)
  (z0 : PySem.W.nsIn K mainGlobals "abs" = some none)
  (z1 : PySem.W.nsIn K mainGlobals "any" = some none)
  (z2 : PySem.W.nsIn K mainGlobals "bool" = some none)
  (z3 : PySem.W.nsIn K mainGlobals "int" = some none)
  (z4 : PySem.W.nsIn K mainGlobals "isinstance" = some none)
  (z5 : PySem.W.nsIn K mainGlobals "len" = some none)
  (z6 : PySem.W.nsIn K mainGlobals "list" = some none)
  (z7 : PySem.W.nsIn K mainGlobals "max" = some none)
  (z8 : PySem.W.nsIn K mainGlobals "min" = some none)
  (z9 : PySem.W.nsIn K mainGlobals "range" = some none)
  (z10 : PySem.W.nsIn K mainGlobals "set" = some none)
  (z11 : PySem.W.nsIn K mainGlobals "sorted" = some none)
  (z12 : PySem.W.nsIn K mainGlobals "tuple" = some none)
  (z13 : PySem.W.nsIn K mainGlobals "zip" = some none) :
  ∃ fd : FuncData, (∀ (s : Shared) (v : Value), BindsTo s fd ⟨[v], []⟩ [("_law_script", v)]) ∧ ∀ base : Heap, K.In base → base.Ns mainGlobals mg → ZD l.prog w K mg base CX0 61 fa fd ["_law_script"] (lift K Li) := by
 have e := hfa.symm.trans (PySem.W.mg_of X G a50)
 cases e
 have F0 := ZA (st := Jp) l0 c0 k0
 have b0 := F0.binds (ps := ["thing"]) fun _ _ _ _ _ _ us hl => by obtain ⟨_, rfl⟩ := W3 hl; rfl
 have F1 := ZA (st := Q1) l1 c1 k1
 have b1 := F1.binds (ps := ["box"]) fun _ _ _ _ _ _ us hl => by obtain ⟨_, rfl⟩ := W3 hl; rfl
 have F2 := ZA (st := D4) l2 c2 k2
 have b2 := F2.binds (ps := ["box", "spot"]) fun _ _ _ _ _ _ us hl => by obtain ⟨_, _, rfl⟩ := QX hl; rfl
 have F3 := ZA (st := J3) l3 c3 k3
 have b3 := F3.binds (ps := ["box", "other"]) fun _ _ _ _ _ _ us hl => by obtain ⟨_, _, rfl⟩ := QX hl; rfl
 have F4 := ZA (st := Jm) l4 c4 k4
 have b4 := F4.binds (ps := ["box", "spot"]) fun _ _ _ _ _ _ us hl => by obtain ⟨_, _, rfl⟩ := QX hl; rfl
 have F5 := ZA (st := Z4) l5 c5 k5
 have b5 := F5.binds (ps := ["one", "other"]) fun _ _ _ _ _ _ us hl => by obtain ⟨_, _, rfl⟩ := QX hl; rfl
 have F6 := ZA (st := D8) l6 c6 k6
 have b6 := F6.binds (ps := ["one", "other", "way"]) fun _ _ _ _ _ _ us hl => by obtain ⟨_, _, _, rfl⟩ := Xs hl; rfl
 have F7 := ZA (st := VO) l7 c7 k7
 have b7 := F7.binds (ps := ["spot", "r"]) fun _ _ _ _ _ _ us hl => by obtain ⟨_, _, rfl⟩ := QX hl; rfl
 have F8 := ZA (st := Xf) l8 c8 k8
 have b8 := F8.binds (ps := ["box", "way", "at"]) fun _ _ _ _ _ _ us hl => by obtain ⟨_, _, _, rfl⟩ := Xs hl; rfl
 have F9 := ZA (st := Qu) l9 c9 k9
 have b9 := F9.binds (ps := ["box", "way", "at"]) fun _ _ _ _ _ _ us hl => by obtain ⟨_, _, _, rfl⟩ := Xs hl; rfl
 have F10 := ZA (st := VN) l10 c10 k10
 have b10 := F10.binds (ps := ["one", "other"]) fun _ _ _ _ _ _ us hl => by obtain ⟨_, _, rfl⟩ := QX hl; rfl
 have F11 := ZA (st := JB) l11 c11 k11
 have b11 := F11.binds (ps := ["one", "other"]) fun _ _ _ _ _ _ us hl => by obtain ⟨_, _, rfl⟩ := QX hl; rfl
 have F12 := ZA (st := QZ) l12 c12 k12
 have b12 := F12.binds (ps := ["box", "others"]) fun _ _ _ _ _ _ us hl => by obtain ⟨_, _, rfl⟩ := QX hl; rfl
 have F13 := ZA (st := Jw) l13 c13 k13
 have b13 := F13.binds (ps := ["shape", "box"]) fun _ _ _ _ _ _ us hl => by obtain ⟨_, _, rfl⟩ := QX hl; rfl
 have F14 := ZA (st := Jq) l14 c14 k14
 have b14 := F14.binds (ps := ["shape", "box"]) fun _ _ _ _ _ _ us hl => by obtain ⟨_, _, rfl⟩ := QX hl; rfl
 have F15 := ZA (st := Qo) l15 c15 k15
 have b15 := F15.binds (ps := ["shape", "box", "way"]) fun _ _ _ _ _ _ us hl => by obtain ⟨_, _, _, rfl⟩ := Xs hl; rfl
 have F16 := ZA (st := Qv) l16 c16 k16
 have b16 := F16.binds (ps := ["shape", "box", "thing"]) fun _ _ _ _ _ _ us hl => by obtain ⟨_, _, _, rfl⟩ := Xs hl; rfl
 have F17 := ZA (st := Qd) l17 c17 k17
 have b17 := F17.binds (ps := ["shape", "k"]) fun _ _ _ _ _ _ us hl => by obtain ⟨_, _, rfl⟩ := QX hl; rfl
 have F18 := ZA (st := Wu) l18 c18 k18
 have b18 := F18.binds (ps := ["box", "way", "at"]) fun _ _ _ _ _ _ us hl => by obtain ⟨_, _, _, rfl⟩ := Xs hl; rfl
 have F19 := ZA (st := Jl) l19 c19 k19
 have b19 := F19.binds (ps := ["one", "other"]) fun _ _ _ _ _ _ us hl => by obtain ⟨_, _, rfl⟩ := QX hl; rfl
 have F20 := ZA (st := Ju) l20 c20 k20
 have b20 := F20.binds (ps := ["shape", "spot"]) fun _ _ _ _ _ _ us hl => by obtain ⟨_, _, rfl⟩ := QX hl; rfl
 have F21 := ZA (st := YT) l21 c21 k21
 have b21 := F21.binds (ps := ["shape", "spot"]) fun _ _ _ _ _ _ us hl => by obtain ⟨_, _, rfl⟩ := QX hl; rfl
 have F22 := ZA (st := Wo) l22 c22 k22
 have b22 := F22.binds (ps := ["shape", "wobble", "spot"]) fun _ _ _ _ _ _ us hl => by obtain ⟨_, _, _, rfl⟩ := Xs hl; rfl
 have F23 := ZA (st := QI) l23 c23 k23
 have b23 := F23.binds (ps := ["shape", "spot"]) fun _ _ _ _ _ _ us hl => by obtain ⟨_, _, rfl⟩ := QX hl; rfl
 have F24 := ZA (st := JV) l24 c24 k24
 have b24 := F24.binds (ps := ["shape"]) fun _ _ _ _ _ _ us hl => by obtain ⟨_, rfl⟩ := W3 hl; rfl
 have F25 := ZA (st := Qj) l25 c25 k25
 have b25 := F25.binds (ps := ["pieces", "spot"]) fun _ _ _ _ _ _ us hl => by obtain ⟨_, _, rfl⟩ := QX hl; rfl
 have F26 := ZA (st := DU) l26 c26 k26
 have b26 := F26.binds (ps := ["_law_script", "_law_k"]) fun _ _ _ _ _ _ us hl => by obtain ⟨_, _, rfl⟩ := QX hl; rfl
 have F27 := ZA (st := K1) l27 c27 k27
 have b27 := F27.binds (ps := ["_law_pen_here", "_law_many"]) fun _ _ _ _ _ _ us hl => by obtain ⟨_, _, rfl⟩ := QX hl; rfl
 have F28 := ZA (st := KN) l28 c28 k28
 have b28 := F28.binds (ps := ["_law_pen_here"]) fun _ _ _ _ _ _ us hl => by obtain ⟨_, rfl⟩ := W3 hl; rfl
 have F29 := ZA (st := EA) l29 c29 k29
 have b29 := F29.binds (ps := ["_law_pen_here", "_law_box_here"]) fun _ _ _ _ _ _ us hl => by obtain ⟨_, _, rfl⟩ := QX hl; rfl
 have F30 := ZA (st := Xc) l30 c30 k30
 have b30 := F30.binds (ps := ["_law_pen_here"]) fun _ _ _ _ _ _ us hl => by obtain ⟨_, rfl⟩ := W3 hl; rfl
 have F31 := ZA (st := Jv) l31 c31 k31
 have b31 := F31.binds (ps := ["_law_pen_here"]) fun _ _ _ _ _ _ us hl => by obtain ⟨_, rfl⟩ := W3 hl; rfl
 have F32 := ZA (st := Wc) l32 c32 k32
 have b32 := F32.binds (ps := ["_law_boxes_here", "_law_frame_here"]) fun _ _ _ _ _ _ us hl => by obtain ⟨_, _, rfl⟩ := QX hl; rfl
 have F33 := ZA (st := Wn) l33 c33 k33
 have b33 := F33.binds (ps := ["_law_pen_here", "_law_frame_here"]) fun _ _ _ _ _ _ us hl => by obtain ⟨_, _, rfl⟩ := QX hl; rfl
 have F34 := ZA (st := YY) l34 c34 k34
 have b34 := F34.binds (ps := ["_law_one", "_law_box_here"]) fun _ _ _ _ _ _ us hl => by obtain ⟨_, _, rfl⟩ := QX hl; rfl
 have F35 := ZA (st := Xb) l35 c35 k35
 have b35 := F35.binds (ps := ["_law_box_here", "_law_way", "_law_at"]) fun _ _ _ _ _ _ us hl => by obtain ⟨_, _, _, rfl⟩ := Xs hl; rfl
 have F36 := ZA (st := Y2) l36 c36 k36
 have b36 := F36.binds (ps := ["_law_thing"]) fun _ _ _ _ _ _ us hl => by obtain ⟨_, rfl⟩ := W3 hl; rfl
 have F37 := ZA (st := QJ) l37 c37 k37
 have b37 := F37.binds (ps := ["_law_shape", "_law_box_here", "_law_paper"]) fun _ _ _ _ _ _ us hl => by obtain ⟨_, _, _, rfl⟩ := Xs hl; rfl
 have F38 := ZA (st := Xd) l38 c38 k38
 have b38 := F38.binds (ps := ["_law_shape", "_law_box_here", "_law_thing"]) fun _ _ _ _ _ _ us hl => by obtain ⟨_, _, _, rfl⟩ := Xs hl; rfl
 have F39 := ZA (st := YZ) l39 c39 k39
 have b39 := F39.binds (ps := ["_law_one", "_law_other"]) fun _ _ _ _ _ _ us hl => by obtain ⟨_, _, rfl⟩ := QX hl; rfl
 have F40 := ZA (st := Qs) l40 c40 k40
 have b40 := F40.binds (ps := ["_law_pen_here", "_law_boxes_here"]) fun _ _ _ _ _ _ us hl => by obtain ⟨_, _, rfl⟩ := QX hl; rfl
 have F41 := ZA (st := Wf) l41 c41 k41
 have b41 := F41.binds (ps := ["_law_paper", "_law_box_here", "_law_part_here"]) fun _ _ _ _ _ _ us hl => by obtain ⟨_, _, _, rfl⟩ := Xs hl; rfl
 have F42 := ZA (st := Wb) l42 c42 k42
 have b42 := F42.binds (ps := ["_law_paper", "_law_box_here", "_law_shape", "_law_papers_here"]) fun _ _ _ _ _ _ us hl => by obtain ⟨_, _, _, _, rfl⟩ := Zcf hl; rfl
 have F43 := ZA (st := K5) l43 c43 k43
 have b43 := F43.binds (ps := ["_law_paper"]) fun _ _ _ _ _ _ us hl => by obtain ⟨_, rfl⟩ := W3 hl; rfl
 have F44 := ZA (st := VZ) l44 c44 k44
 have b44 := F44.binds (ps := ["_law_one", "_law_other"]) fun _ _ _ _ _ _ us hl => by obtain ⟨_, _, rfl⟩ := QX hl; rfl
 have F45 := ZA (st := Xh) l45 c45 k45
 have b45 := F45.binds (ps := ["_law_pen_here", "_law_box_here"]) fun _ _ _ _ _ _ us hl => by obtain ⟨_, _, rfl⟩ := QX hl; rfl
 have F46 := ZA (st := VS) l46 c46 k46
 have b46 := F46.binds (ps := ["_law_box_here", "_law_way", "_law_paper"]) fun _ _ _ _ _ _ us hl => by obtain ⟨_, _, _, rfl⟩ := Xs hl; rfl
 have F47 := ZA (st := QK) l47 c47 k47
 have b47 := F47.binds (ps := ["_law_pen_here", "_law_shape", "_law_box_here", "_law_made_here"]) fun _ _ _ _ _ _ us hl => by obtain ⟨_, _, _, _, rfl⟩ := Zcf hl; rfl
 have F48 := ZA (st := J2) l48 c48 k48
 have b48 := F48.binds (ps := ["_law_pen_here", "_law_shapes"]) fun _ _ _ _ _ _ us hl => by obtain ⟨_, _, rfl⟩ := QX hl; rfl
 have F49 := ZA (st := JR) l49 c49 k49
 have b49 := F49.binds (ps := ["_law_shapes", "_law_spot_here"]) fun _ _ _ _ _ _ us hl => by obtain ⟨_, _, rfl⟩ := QX hl; rfl
 have F50 := ZA (st := B1) l50 c50 k50
 have b50 := F50.binds (ps := ["_law_script"]) fun _ _ _ _ _ _ us hl => by obtain ⟨_, rfl⟩ := W3 hl; rfl
 let T : Tx K mg := ⟨_, _, ⟨F0, PySem.W.mg_of X G a0, b0⟩, _, _, ⟨F1, PySem.W.mg_of X G a1, b1⟩, _, _, ⟨F2, PySem.W.mg_of X G a2, b2⟩, _, _, ⟨F3, PySem.W.mg_of X G a3, b3⟩, _, _, ⟨F4, PySem.W.mg_of X G a4, b4⟩, _, _, ⟨F5, PySem.W.mg_of X G a5, b5⟩, _, _, ⟨F6, PySem.W.mg_of X G a6, b6⟩, _, _, ⟨F7, PySem.W.mg_of X G a7, b7⟩, _, _, ⟨F8, PySem.W.mg_of X G a8, b8⟩, _, _, ⟨F9, PySem.W.mg_of X G a9, b9⟩, _, _, ⟨F10, PySem.W.mg_of X G a10, b10⟩, _, _, ⟨F11, PySem.W.mg_of X G a11, b11⟩, _, _, ⟨F12, PySem.W.mg_of X G a12, b12⟩, _, _, ⟨F13, PySem.W.mg_of X G a13, b13⟩, _, _, ⟨F14, PySem.W.mg_of X G a14, b14⟩, _, _, ⟨F15, PySem.W.mg_of X G a15, b15⟩, _, _, ⟨F16, PySem.W.mg_of X G a16, b16⟩, _, _, ⟨F17, PySem.W.mg_of X G a17, b17⟩, _, _, ⟨F18, PySem.W.mg_of X G a18, b18⟩, _, _, ⟨F19, PySem.W.mg_of X G a19, b19⟩, _, _, ⟨F20, PySem.W.mg_of X G a20, b20⟩, _, _, ⟨F21, PySem.W.mg_of X G a21, b21⟩, _, _, ⟨F22, PySem.W.mg_of X G a22, b22⟩, _, _, ⟨F23, PySem.W.mg_of X G a23, b23⟩, _, _, ⟨F24, PySem.W.mg_of X G a24, b24⟩, _, _, ⟨F25, PySem.W.mg_of X G a25, b25⟩, _, _, ⟨F26, PySem.W.mg_of X G a26, b26⟩, _, _, ⟨F27, PySem.W.mg_of X G a27, b27⟩, _, _, ⟨F28, PySem.W.mg_of X G a28, b28⟩, _, _, ⟨F29, PySem.W.mg_of X G a29, b29⟩, _, _, ⟨F30, PySem.W.mg_of X G a30, b30⟩, _, _, ⟨F31, PySem.W.mg_of X G a31, b31⟩, _, _, ⟨F32, PySem.W.mg_of X G a32, b32⟩, _, _, ⟨F33, PySem.W.mg_of X G a33, b33⟩, _, _, ⟨F34, PySem.W.mg_of X G a34, b34⟩, _, _, ⟨F35, PySem.W.mg_of X G a35, b35⟩, _, _, ⟨F36, PySem.W.mg_of X G a36, b36⟩, _, _, ⟨F37, PySem.W.mg_of X G a37, b37⟩, _, _, ⟨F38, PySem.W.mg_of X G a38, b38⟩, _, _, ⟨F39, PySem.W.mg_of X G a39, b39⟩, _, _, ⟨F40, PySem.W.mg_of X G a40, b40⟩, _, _, ⟨F41, PySem.W.mg_of X G a41, b41⟩, _, _, ⟨F42, PySem.W.mg_of X G a42, b42⟩, _, _, ⟨F43, PySem.W.mg_of X G a43, b43⟩, _, _, ⟨F44, PySem.W.mg_of X G a44, b44⟩, _, _, ⟨F45, PySem.W.mg_of X G a45, b45⟩, _, _, ⟨F46, PySem.W.mg_of X G a46, b46⟩, _, _, ⟨F47, PySem.W.mg_of X G a47, b47⟩, _, _, ⟨F48, PySem.W.mg_of X G a48, b48⟩, _, _, ⟨F49, PySem.W.mg_of X G a49, b49⟩, _, _, ⟨F50, PySem.W.mg_of X G a50, b50⟩, PySem.W.mg_none_of X G z0, PySem.W.mg_none_of X G z1, PySem.W.mg_none_of X G z2, PySem.W.mg_none_of X G z3, PySem.W.mg_none_of X G z4, PySem.W.mg_none_of X G z5, PySem.W.mg_none_of X G z6, PySem.W.mg_none_of X G z7, PySem.W.mg_none_of X G z8, PySem.W.mg_none_of X G z9, PySem.W.mg_none_of X G z10, PySem.W.mg_none_of X G z11, PySem.W.mg_none_of X G z12, PySem.W.mg_none_of X G z13⟩
 exact ⟨_, fun s v => .of_eq rfl, fun base _ _ => ZbT T⟩
theorem walk {l : PySem.W.OpenLaw} {q : Program} {loose : List Str} {XP : (Str → Option Value) → Heap → Prop} {YP : World → Heap → Prop} {d : DefRec} {K : Params → PySem.W.Frag} (hn : l.most = some 63) (hdf : d.params.defaults = [])
  (hY : ∀ (w : World) (h : Heap), YP w h → (K w.params).In h)
  (F : ∀ (w : World) (mg : Str → Option Value) (fa : Addr) (h : Heap), (K w.params).In h → h.Ns mainGlobals mg → mg d.name = some (.ref fa) →
   ∃ fd : FuncData, (∀ (s : Shared) (u : Value), BindsTo s fd ⟨[u], []⟩ [("_law_script", u)]) ∧ ∀ base : Heap, (K w.params).In base → base.Ns mainGlobals mg → ZD l.prog w (K w.params) mg base CX0 61 fa fd ["_law_script"] (lift (K w.params) Li)) :
  PySem.W.WalkO q loose XP YP l.row.toRowW d [] (fun f vs => PySem.call f vs) :=
 L2.RV (n := 63) (k := 61) (x := "_law_script") (CX := fun _ => CX0) (sp := fun w => lift (K w.params) Li) hn (by decide) hdf ⟨rfl, by decide, by decide, rfl⟩ hY F
  (fun w H a ns hl hO hS => Lb hl hO hS) fun _ _ _ _ _ z => z
end My
theorem PySem.W.Fast.tw11290676868314223125 : True := trivial
theorem PySem.W.Fast.tw7738963150834491151 : True := trivial
theorem PySem.W.Fast.tw4358609158039707442 : True := trivial
theorem PySem.W.Fast.tw11185116829888847937 : True := trivial
theorem PySem.W.Fast.tw6536107998076368800 : True := trivial
theorem PySem.W.Fast.tw7656255236945274080 : True := trivial
theorem PySem.W.Fast.tw2451102369177730355 : True := trivial
theorem PySem.W.Fast.tw4026339572073828266 : True := trivial
theorem PySem.W.Fast.tw11428383715061350277 : True := trivial
theorem PySem.W.Fast.tw18417596940475348884 : True := trivial
theorem PySem.W.Fast.tw814513755893860353 : True := trivial
theorem PySem.W.Fast.tw15138362199058619920 : True := trivial
theorem PySem.W.Fast.tw1068824557156255293 : True := trivial
theorem PySem.W.Fast.tw6223793554705204667 : True := trivial
theorem PySem.W.Fast.tw12584230058099326233 : True := trivial
theorem PySem.W.Fast.tw13633211280194613481 : True := trivial
theorem PySem.W.Fast.tw5123978340556517173 : True := trivial
theorem PySem.W.Fast.tw7520660364196557851 : True := trivial
theorem PySem.W.Fast.tw3652203651045545013 : True := trivial
theorem PySem.W.Fast.tw11654204244453094430 : True := trivial
theorem PySem.W.Fast.tw15131551045467616195 : True := trivial
theorem PySem.W.Fast.tw16372080155006444553 : True := trivial
theorem PySem.W.Fast.tw14613845937163741814 : True := trivial
theorem PySem.W.Fast.tw5302256107729322605 : True := trivial
theorem PySem.W.Fast.tw12345001494345591149 : True := trivial
theorem PySem.W.Fast.tw7110069953745769857 : True := trivial
theorem PySem.W.Fast.tw11410639518097182138 : True := trivial
theorem PySem.W.Fast.tw12705697269882205385 : True := trivial
theorem PySem.W.Fast.tw13025043303059753124 : True := trivial
theorem PySem.W.Fast.tw5450849989834179109 : True := trivial
theorem PySem.W.Fast.tw4708934656812426962 : True := trivial
theorem PySem.W.Fast.tw6389774866678610278 : True := trivial
theorem PySem.W.Fast.tw2742258312754436744 : True := trivial
theorem PySem.W.Fast.tw8176769706227683105 : True := trivial
theorem PySem.W.Fast.tw10549668914621172665 : True := trivial
theorem PySem.W.Fast.tw17269790186511927045 : True := trivial
theorem PySem.W.Fast.tw8395953236902018146 : True := trivial
theorem PySem.W.Fast.tw6188700470917327589 : True := trivial
theorem PySem.W.Fast.tw12573904666757429472 : True := trivial
theorem PySem.W.Fast.tw12620259425311561165 : True := trivial
theorem PySem.W.Fast.tw13244717119399374292 : True := trivial
theorem PySem.W.Fast.tw16600879011495952780 : True := trivial
theorem PySem.W.Fast.tw621673828824661220 : True := trivial
theorem PySem.W.Fast.tw6889089701328928520 : True := trivial
theorem PySem.W.Fast.tw17984988459540743394 : True := trivial
theorem PySem.W.Fast.tw18115764203806571302 : True := trivial
theorem PySem.W.Fast.tw6917953415564707714 : True := trivial
theorem PySem.W.Fast.tw16076634558766202342 : True := trivial
theorem PySem.W.Fast.tw6101380884417262852 : True := trivial
theorem PySem.W.Fast.tw8405854433890291071 : True := trivial
theorem PySem.W.Fast.tw176753047226721280 : True := trivial
theorem PySem.W.Fast.tw14268118733766018370 : True := trivial
theorem PySem.W.Fast.tw6974834015647766062 : True := trivial
theorem PySem.W.Fast.tw4154563266257506288 : True := trivial
theorem PySem.W.Fast.tw5626827608331865602 : True := trivial
theorem PySem.W.Fast.tw16634832482898096901 : True := trivial
theorem PySem.W.Fast.tw6227378096733183262 : True := trivial
theorem PySem.W.Fast.tw15141476492164845229 : True := trivial
theorem PySem.W.Fast.tw17411587192299635010 : True := trivial
theorem PySem.W.Fast.tw15840865594090562801 : True := trivial
theorem PySem.W.Fast.tw14356800661578992434 : True := trivial
theorem PySem.W.Fast.tw93017543012226443 : True := trivial
theorem PySem.W.Fast.tw15722269924111424989 : True := trivial
theorem PySem.W.Fast.tw5438645145585130026 : True := trivial
theorem PySem.W.Fast.tw4255069172436234136 : True := trivial
theorem PySem.W.Fast.tw15828450523639254920 : True := trivial
theorem PySem.W.Fast.tw17366681453500336913 : True := trivial
theorem PySem.W.Fast.tw7984832408587068283 : True := trivial
theorem PySem.W.Fast.tw14918542462654328903 : True := trivial
theorem PySem.W.Fast.tw1442074487710301914 : True := trivial
theorem PySem.W.Fast.tw18146320799405826885 : True := trivial
theorem PySem.W.Fast.tw44910627509830433 : True := trivial
theorem PySem.W.Fast.tw8105791874891547056 : True := trivial
theorem PySem.W.Fast.tw14850738248183914489 : True := trivial
theorem PySem.W.Fast.tw4154134355076808664 : True := trivial
theorem PySem.W.Fast.tw10179643586781628117 : True := trivial
theorem PySem.W.Fast.tw18046330878325638959 : True := trivial
theorem PySem.W.Fast.tw6184029544097663161 : True := trivial
theorem PySem.W.Fast.tw13975001594768409498 : True := trivial
theorem PySem.W.Fast.tw3307057208493548265 : True := trivial
theorem PySem.W.Fast.tw12951125227244158026 : True := trivial
theorem PySem.W.Fast.tw12083227028187078339 : True := trivial
theorem PySem.W.Fast.tw5862764927553072847 : True := trivial
theorem PySem.W.Fast.tw5455772208266920851 : True := trivial
theorem PySem.W.Fast.tw14110985583326843294 : True := trivial
theorem PySem.W.Fast.tw7777488353094897713 : True := trivial
theorem PySem.W.Fast.tw779881562354831796 : True := trivial
theorem PySem.W.Fast.tw16420728675724607849 : True := trivial
theorem PySem.W.Fast.tw7626603124440093661 : True := trivial
theorem PySem.W.Fast.tw11067889010038329319 : True := trivial
theorem PySem.W.Fast.tw5398280723105271296 : True := trivial
theorem PySem.W.Fast.tw6485008462147123721 : True := trivial
theorem PySem.W.Fast.tw5923828811006628607 : True := trivial
theorem PySem.W.Fast.tw9933680018419622420 : True := trivial
theorem PySem.W.Fast.tw14557918975064508077 : True := trivial
theorem PySem.W.Fast.tw13752476194163491692 : True := trivial
theorem PySem.W.Fast.tw8741462716019696422 : True := trivial
theorem PySem.W.Fast.tw6269681468832866468 : True := trivial
theorem PySem.W.Fast.tw4889556772905453056 : True := trivial
theorem PySem.W.Fast.tw14854017188314186975 : True := trivial
theorem PySem.W.Fast.tw2025955670625271930 : True := trivial
theorem PySem.W.Fast.tw15069629275971925113 : True := trivial
theorem PySem.W.Fast.tw6328973984653522408 : True := trivial
theorem PySem.W.Fast.tw9782675088492250364 : True := trivial
theorem PySem.W.Fast.tw9794528741431257421 : True := trivial
theorem PySem.W.Fast.tw10376659725803813524 : True := trivial
theorem PySem.W.Fast.tw684591988165379160 : True := trivial
theorem PySem.W.Fast.tw9074188223191290964 : True := trivial
theorem PySem.W.Fast.tw15585463641137366961 : True := trivial
theorem PySem.W.Fast.tw3474221302926003686 : True := trivial
theorem PySem.W.Fast.tw7512081267267993013 : True := trivial
theorem PySem.W.Fast.tw12162523450266942472 : True := trivial
theorem PySem.W.Fast.tw3112631735766660876 : True := trivial
theorem PySem.W.Fast.tw6927321253343698836 : True := trivial
theorem PySem.W.Fast.tw5636799405533262660 : True := trivial
theorem PySem.W.Fast.tw5437280865100185847 : True := trivial
theorem PySem.W.Fast.tw18290606263297255054 : True := trivial
theorem PySem.W.Fast.tw11272285300681658110 : True := trivial
theorem PySem.W.Fast.tw16370726438531744432 : True := trivial
theorem PySem.W.Fast.tw7788802808336331036 : True := trivial
theorem PySem.W.Fast.tw5134957160517357393 : True := trivial
theorem PySem.W.Fast.tw383342619957651276 : True := trivial
theorem PySem.W.Fast.tw8090831096157572935 : True := trivial
theorem PySem.W.Fast.tw14980078324720431175 : True := trivial
theorem PySem.W.Fast.tw4825117711043835880 : True := trivial
theorem PySem.W.Fast.tw9459521952774837833 : True := trivial
theorem PySem.W.Fast.tw7336617871199407884 : True := trivial
theorem PySem.W.Fast.tw15302586643248329934 : True := trivial
theorem PySem.W.Fast.tw7652186011767323518 : True := trivial
theorem PySem.W.Fast.tw14550639713390691598 : True := trivial
theorem PySem.W.Fast.tw15651810157688402950 : True := trivial
theorem PySem.W.Fast.tw10152845505507536459 : True := trivial
theorem PySem.W.Fast.tw17946333404724304851 : True := trivial
theorem PySem.W.Fast.tw5694858878413648892 : True := trivial
theorem PySem.W.Fast.tw13219718909183646305 : True := trivial
theorem PySem.W.Fast.tw7741396235927019768 : True := trivial
theorem PySem.W.Fast.tw5836615142700297314 : True := trivial
theorem PySem.W.Fast.tw14341751409690053707 : True := trivial
theorem PySem.W.Fast.tw6189971529228956430 : True := trivial
theorem PySem.W.Fast.tw13059533892687484891 : True := trivial
theorem PySem.W.Fast.tw9433385837548274580 : True := trivial
theorem PySem.W.Fast.tw3824239192489939215 : True := trivial
theorem PySem.W.Fast.tw554949585977650160 : True := trivial
theorem PySem.W.Fast.tw4661007483977337345 : True := trivial
theorem PySem.W.Fast.tw16720445214815075805 : True := trivial
theorem PySem.W.Fast.tw16724427153755959737 : True := trivial
theorem PySem.W.Fast.tw7239528518450084183 : True := trivial
theorem PySem.W.Fast.tw15368948076270471623 : True := trivial
theorem PySem.W.Fast.tw6051909945804132353 : True := trivial
theorem PySem.W.Fast.tw2967633867606038103 : True := trivial
theorem PySem.W.Fast.tw14574350191705315891 : True := trivial
theorem PySem.W.Fast.tw15644474616470577745 : True := trivial
theorem PySem.W.Fast.tw7145093805960255822 : True := trivial
theorem PySem.W.Fast.tw9764607222094789096 : True := trivial
theorem PySem.W.Fast.tw8530794518869785570 : True := trivial
theorem PySem.W.Fast.tw9442626337154739586 : True := trivial
theorem PySem.W.Fast.tw18024308852947773532 : True := trivial
theorem PySem.W.Fast.tw8730719390461339884 : True := trivial
theorem PySem.W.Fast.tw11381251574142686205 : True := trivial
theorem PySem.W.Fast.tw4621569562578415089 : True := trivial
theorem PySem.W.Fast.tw12477263495860270742 : True := trivial
theorem PySem.W.Fast.tw5144286911044686990 : True := trivial
theorem PySem.W.Fast.tw17743533372314246306 : True := trivial
theorem PySem.W.Fast.tw956013851996595027 : True := trivial
theorem PySem.W.Fast.tw3495193395781312224 : True := trivial
theorem PySem.W.Fast.tw10788885631354724576 : True := trivial
theorem PySem.W.Fast.tw8251076014188023045 : True := trivial
theorem PySem.W.Fast.tw10116874284760650112 : True := trivial
theorem PySem.W.Fast.tw12465969685131617600 : True := trivial
theorem PySem.W.Fast.tw17526735219380950869 : True := trivial
theorem PySem.W.Fast.tw13767927355454135677 : True := trivial
theorem PySem.W.Fast.tw12871883916414430139 : True := trivial
theorem PySem.W.Fast.tw4861515210596912808 : True := trivial
theorem PySem.W.Fast.tw8887616029850301814 : True := trivial
theorem PySem.W.Fast.tw4490626728953738358 : True := trivial
theorem PySem.W.Fast.tw2373551021367700443 : True := trivial
theorem PySem.W.Fast.tw8138189435459051689 : True := trivial
theorem PySem.W.Fast.tw8943443000615517523 : True := trivial
theorem PySem.W.Fast.tw2653344928396599886 : True := trivial
theorem PySem.W.Fast.tw11945802615486706160 : True := trivial
theorem PySem.W.Fast.tw8993936564676298240 : True := trivial
theorem PySem.W.Fast.tw8823216480316342842 : True := trivial
theorem PySem.W.Fast.tw2196441838518369225 : True := trivial
theorem PySem.W.Fast.tw13387661057328894975 : True := trivial
theorem PySem.W.Fast.tw8452132998192818102 : True := trivial
theorem PySem.W.Fast.tw10929783689031275099 : True := trivial
theorem PySem.W.Fast.tw6949689144212483289 : True := trivial
theorem PySem.W.Fast.tw14649984266962384687 : True := trivial
theorem PySem.W.Fast.tw8515096835020536477 : True := trivial
theorem PySem.W.Fast.tw15144159809772971066 : True := trivial
theorem PySem.W.Fast.tw3147775815819773327 : True := trivial
theorem PySem.W.Fast.tw16188084611857416621 : True := trivial
theorem PySem.W.Fast.tw1136556856904876361 : True := trivial
theorem PySem.W.Fast.tw11387033980760263982 : True := trivial
theorem PySem.W.Fast.tw1479693966054520123 : True := trivial
theorem PySem.W.Fast.tw8347907069078814976 : True := trivial
theorem PySem.W.Fast.tw15004824800240549905 : True := trivial
theorem PySem.W.Fast.tw4468951005504865625 : True := trivial
theorem PySem.W.Fast.tw17439466741051509686 : True := trivial
theorem PySem.W.Fast.tw11077234735092305939 : True := trivial
theorem PySem.W.Fast.tw11389786607392971089 : True := trivial
theorem PySem.W.Fast.tw5380340279005702508 : True := trivial
theorem PySem.W.Fast.tw4959322453009693565 : True := trivial
theorem PySem.W.Fast.tw714502615661272244 : True := trivial
theorem PySem.W.Fast.tw10717783373648524196 : True := trivial
theorem PySem.W.Fast.tw18062089006352453152 : True := trivial
theorem PySem.W.Fast.tw14449780461126417253 : True := trivial
theorem PySem.W.Fast.tw8680772802494262608 : True := trivial
theorem PySem.W.Fast.tw13941874467746691764 : True := trivial
theorem PySem.W.Fast.tw14370618304834583737 : True := trivial
theorem PySem.W.Fast.tw9776564045313036831 : True := trivial
theorem PySem.W.Fast.tw17433593354453444994 : True := trivial
theorem PySem.W.Fast.tw15415398373185615727 : True := trivial
theorem PySem.W.Fast.tw13492753307693954419 : True := trivial
theorem PySem.W.Fast.tw12149405562977018812 : True := trivial
theorem PySem.W.Fast.tw8514454064400465838 : True := trivial
theorem PySem.W.Fast.tw6941623696870557295 : True := trivial
theorem PySem.W.Fast.tw17585147062663726611 : True := trivial
theorem PySem.W.Fast.tw13758457951097925710 : True := trivial
theorem PySem.W.Fast.tw6494488805504392078 : True := trivial
theorem PySem.W.Fast.tw8490276375830247573 : True := trivial
theorem PySem.W.Fast.tw4916288406486608544 : True := trivial
theorem PySem.W.Fast.tw5871380530395856818 : True := trivial
theorem PySem.W.Fast.tw11533762371369307736 : True := trivial
theorem PySem.W.Fast.tw7983213937796470088 : True := trivial
theorem PySem.W.Fast.tw14813617503902648179 : True := trivial
theorem PySem.W.Fast.tw6357489057605806204 : True := trivial
theorem PySem.W.Fast.tw2325487756399861142 : True := trivial
theorem PySem.W.Fast.tw7900055653772818566 : True := trivial
theorem PySem.W.Fast.tw12434465434908550436 : True := trivial
theorem PySem.W.Fast.tw4630116822190474506 : True := trivial
theorem PySem.W.Fast.tw17537385559706007291 : True := trivial
theorem PySem.W.Fast.tw5686104922137166232 : True := trivial
theorem PySem.W.Fast.tw11272995816722140512 : True := trivial
theorem PySem.W.Fast.tw2747791104132419595 : True := trivial
theorem PySem.W.Fast.tw7170275834478631331 : True := trivial
theorem PySem.W.Fast.tw7169960657013454290 : True := trivial
theorem PySem.W.Fast.tw8046360106356808118 : True := trivial
theorem PySem.W.Fast.tw4392890946188430235 : True := trivial
theorem PySem.W.Fast.tw396934229442606766 : True := trivial
theorem PySem.W.Fast.tw4901891223264999965 : True := trivial
theorem PySem.W.Fast.tw11243757385073370125 : True := trivial
theorem PySem.W.Fast.tw9387530946020861783 : True := trivial
theorem PySem.W.Fast.tw11656755157449874833 : True := trivial
theorem PySem.W.Fast.tw18446094425011757560 : True := trivial
theorem PySem.W.Fast.tw14433479435066091517 : True := trivial
theorem PySem.W.Fast.tw10080283807907234494 : True := trivial
theorem PySem.W.Fast.tw11547644931995925794 : True := trivial
theorem PySem.W.Fast.tw11017179121313447992 : True := trivial
theorem PySem.W.Fast.tw16572355144368328306 : True := trivial
theorem PySem.W.Fast.tw11918837623298952448 : True := trivial
theorem PySem.W.Fast.tw9913201964255039950 : True := trivial
theorem PySem.W.Fast.tw2893167581987293137 : True := trivial
theorem PySem.W.Fast.tw16066053983959947695 : True := trivial
theorem PySem.W.Fast.tw12124115501405792549 : True := trivial
theorem PySem.W.Fast.tw4359743083179953278 : True := trivial
theorem PySem.W.Fast.tw13637555382153084930 : True := trivial
theorem PySem.W.Fast.tw14096120756308360265 : True := trivial
theorem PySem.W.Fast.tw17818073108291265357 : True := trivial
theorem PySem.W.Fast.tw15493149120538946583 : True := trivial
theorem PySem.W.Fast.tw3578527645154462562 : True := trivial
theorem PySem.W.Fast.tw17206430392599397774 : True := trivial
theorem PySem.W.Fast.tw2450407574488574129 : True := trivial
theorem PySem.W.Fast.tw14686798233559393591 : True := trivial
theorem PySem.W.Fast.tw10140536068671867157 : True := trivial
theorem PySem.W.Fast.tw15712206593498994068 : True := trivial
theorem PySem.W.Fast.tw2406002813765785315 : True := trivial
theorem PySem.W.Fast.tw5983818038338320737 : True := trivial
theorem PySem.W.Fast.tw11967495572102726758 : True := trivial
theorem PySem.W.Fast.tw17318507259952861285 : True := trivial
theorem PySem.W.Fast.tw9311526149643608902 : True := trivial
theorem PySem.W.Fast.tw7673123588975894260 : True := trivial
theorem PySem.W.Fast.tw7935384663527824351 : True := trivial
theorem PySem.W.Fast.tw14393646054117461014 : True := trivial
theorem PySem.W.Fast.tw17339114009370387111 : True := trivial
theorem PySem.W.Fast.tw43855819510400757 : True := trivial
theorem PySem.W.Fast.tw7813154874245922032 : True := trivial
theorem PySem.W.Fast.tw2570846892888602126 : True := trivial
theorem PySem.W.Fast.tw10080171911686235668 : True := trivial
theorem PySem.W.Fast.tw7003699595934001237 : True := trivial
theorem PySem.W.Fast.tw307063550879445527 : True := trivial
theorem PySem.W.Fast.tw14000214999944630538 : True := trivial
theorem PySem.W.Fast.tw15728844558026567169 : True := trivial
theorem PySem.W.Fast.tw16879684471757076073 : True := trivial
theorem PySem.W.Fast.tw14229253537790891936 : True := trivial
theorem PySem.W.Fast.tw18168353715663874007 : True := trivial
theorem PySem.W.Fast.tw12489272023612958162 : True := trivial
theorem PySem.W.Fast.tw11813111165179710593 : True := trivial
theorem PySem.W.Fast.tw13849251989631499448 : True := trivial
theorem PySem.W.Fast.tw1680796126806998934 : True := trivial
theorem PySem.W.Fast.tw8065363555579270679 : True := trivial
theorem PySem.W.Fast.tw10760570808303363027 : True := trivial
theorem PySem.W.Fast.tw1926826739228531909 : True := trivial
theorem PySem.W.Fast.tw17777136482333505356 : True := trivial
theorem PySem.W.Fast.tw3511614838520991070 : True := trivial
theorem PySem.W.Fast.tw10943111025158469662 : True := trivial
theorem PySem.W.Fast.tw2374022229018449140 : True := trivial
theorem PySem.W.Fast.tw16609207931378313877 : True := trivial
theorem PySem.W.Fast.tw14157987890947851129 : True := trivial
theorem PySem.W.Fast.tw15109880758570620174 : True := trivial
theorem PySem.W.Fast.tw102202346888769370 : True := trivial
theorem PySem.W.Fast.tw14955746535799037012 : True := trivial
theorem PySem.W.Fast.tw2291985818759198824 : True := trivial
theorem PySem.W.Fast.tw3907390836238044801 : True := trivial
theorem PySem.W.Fast.tw16137956426564007347 : True := trivial
theorem PySem.W.Fast.tw11712404135679675537 : True := trivial
theorem PySem.W.Fast.tw16205093992160382499 : True := trivial
theorem PySem.W.Fast.tw7940920019904441417 : True := trivial
theorem PySem.W.Fast.tw14405680837403399247 : True := trivial
theorem PySem.W.Fast.tw5181258256216908835 : True := trivial
theorem PySem.W.Fast.tw17744927429213312032 : True := trivial
theorem PySem.W.Fast.tw5213387369961158164 : True := trivial
open PySem PySem.W PyProof.Rows
set_option maxRecDepth 100000 in
set_option maxHeartbeats 0 in
theorem PySem.Challenge.cw_landsentered_k54_whole_papers_go_on_holds : PySem.Challenge.rw_landsentered_k54_whole_papers_go_on.Holds := by
 w_on; o_law; k_head; (case hw => w_witness2)
 k_fill
 refine My.walk (l := PySem.Challenge.rw_landsentered_k54_whole_papers_go_on) rfl rfl (fun w h Y => PySem.W.kIn_of Y) ?F
 case F =>
  intro w mg fa h KX G hmg
  refine' My.all_mk KX G hmg ?a0 ?l0 ?c0 ?k0 ?a1 ?l1 ?c1 ?k1 ?a2 ?l2 ?c2 ?k2 ?a3 ?l3 ?c3 ?k3 ?a4 ?l4 ?c4 ?k4 ?a5 ?l5 ?c5 ?k5 ?a6 ?l6 ?c6 ?k6 ?a7 ?l7 ?c7 ?k7 ?a8 ?l8 ?c8 ?k8 ?a9 ?l9 ?c9 ?k9 ?a10 ?l10 ?c10 ?k10 ?a11 ?l11 ?c11 ?k11 ?a12 ?l12 ?c12 ?k12 ?a13 ?l13 ?c13 ?k13 ?a14 ?l14 ?c14 ?k14 ?a15 ?l15 ?c15 ?k15 ?a16 ?l16 ?c16 ?k16 ?a17 ?l17 ?c17 ?k17 ?a18 ?l18 ?c18 ?k18 ?a19 ?l19 ?c19 ?k19 ?a20 ?l20 ?c20 ?k20 ?a21 ?l21 ?c21 ?k21 ?a22 ?l22 ?c22 ?k22 ?a23 ?l23 ?c23 ?k23 ?a24 ?l24 ?c24 ?k24 ?a25 ?l25 ?c25 ?k25 ?a26 ?l26 ?c26 ?k26 ?a27 ?l27 ?c27 ?k27 ?a28 ?l28 ?c28 ?k28 ?a29 ?l29 ?c29 ?k29 ?a30 ?l30 ?c30 ?k30 ?a31 ?l31 ?c31 ?k31 ?a32 ?l32 ?c32 ?k32 ?a33 ?l33 ?c33 ?k33 ?a34 ?l34 ?c34 ?k34 ?a35 ?l35 ?c35 ?k35 ?a36 ?l36 ?c36 ?k36 ?a37 ?l37 ?c37 ?k37 ?a38 ?l38 ?c38 ?k38 ?a39 ?l39 ?c39 ?k39 ?a40 ?l40 ?c40 ?k40 ?a41 ?l41 ?c41 ?k41 ?a42 ?l42 ?c42 ?k42 ?a43 ?l43 ?c43 ?k43 ?a44 ?l44 ?c44 ?k44 ?a45 ?l45 ?c45 ?k45 ?a46 ?l46 ?c46 ?k46 ?a47 ?l47 ?c47 ?k47 ?a48 ?l48 ?c48 ?k48 ?a49 ?l49 ?c49 ?k49 ?a50 ?l50 ?c50 ?k50 ?z0 ?z1 ?z2 ?z3 ?z4 ?z5 ?z6 ?z7 ?z8 ?z9 ?z10 ?z11 ?z12 ?z13
  (case a0 => k_is)
  (case l0 => k_is)
  (case c0 => k_is)
  (case k0 => k_is)
  (case a1 => k_is)
  (case l1 => k_is)
  (case c1 => k_is)
  (case k1 => k_is)
  (case a2 => k_is)
  (case l2 => k_is)
  (case c2 => k_is)
  (case k2 => k_is)
  (case a3 => k_is)
  (case l3 => k_is)
  (case c3 => k_is)
  (case k3 => k_is)
  (case a4 => k_is)
  (case l4 => k_is)
  (case c4 => k_is)
  (case k4 => k_is)
  (case a5 => k_is)
  (case l5 => k_is)
  (case c5 => k_is)
  (case k5 => k_is)
  (case a6 => k_is)
  (case l6 => k_is)
  (case c6 => k_is)
  (case k6 => k_is)
  (case a7 => k_is)
  (case l7 => k_is)
  (case c7 => k_is)
  (case k7 => k_is)
  (case a8 => k_is)
  (case l8 => k_is)
  (case c8 => k_is)
  (case k8 => k_is)
  (case a9 => k_is)
  (case l9 => k_is)
  (case c9 => k_is)
  (case k9 => k_is)
  (case a10 => k_is)
  (case l10 => k_is)
  (case c10 => k_is)
  (case k10 => k_is)
  (case a11 => k_is)
  (case l11 => k_is)
  (case c11 => k_is)
  (case k11 => k_is)
  (case a12 => k_is)
  (case l12 => k_is)
  (case c12 => k_is)
  (case k12 => k_is)
  (case a13 => k_is)
  (case l13 => k_is)
  (case c13 => k_is)
  (case k13 => k_is)
  (case a14 => k_is)
  (case l14 => k_is)
  (case c14 => k_is)
  (case k14 => k_is)
  (case a15 => k_is)
  (case l15 => k_is)
  (case c15 => k_is)
  (case k15 => k_is)
  (case a16 => k_is)
  (case l16 => k_is)
  (case c16 => k_is)
  (case k16 => k_is)
  (case a17 => k_is)
  (case l17 => k_is)
  (case c17 => k_is)
  (case k17 => k_is)
  (case a18 => k_is)
  (case l18 => k_is)
  (case c18 => k_is)
  (case k18 => k_is)
  (case a19 => k_is)
  (case l19 => k_is)
  (case c19 => k_is)
  (case k19 => k_is)
  (case a20 => k_is)
  (case l20 => k_is)
  (case c20 => k_is)
  (case k20 => k_is)
  (case a21 => k_is)
  (case l21 => k_is)
  (case c21 => k_is)
  (case k21 => k_is)
  (case a22 => k_is)
  (case l22 => k_is)
  (case c22 => k_is)
  (case k22 => k_is)
  (case a23 => k_is)
  (case l23 => k_is)
  (case c23 => k_is)
  (case k23 => k_is)
  (case a24 => k_is)
  (case l24 => k_is)
  (case c24 => k_is)
  (case k24 => k_is)
  (case a25 => k_is)
  (case l25 => k_is)
  (case c25 => k_is)
  (case k25 => k_is)
  (case a26 => k_is)
  (case l26 => k_is)
  (case c26 => k_is)
  (case k26 => k_is)
  (case a27 => k_is)
  (case l27 => k_is)
  (case c27 => k_is)
  (case k27 => k_is)
  (case a28 => k_is)
  (case l28 => k_is)
  (case c28 => k_is)
  (case k28 => k_is)
  (case a29 => k_is)
  (case l29 => k_is)
  (case c29 => k_is)
  (case k29 => k_is)
  (case a30 => k_is)
  (case l30 => k_is)
  (case c30 => k_is)
  (case k30 => k_is)
  (case a31 => k_is)
  (case l31 => k_is)
  (case c31 => k_is)
  (case k31 => k_is)
  (case a32 => k_is)
  (case l32 => k_is)
  (case c32 => k_is)
  (case k32 => k_is)
  (case a33 => k_is)
  (case l33 => k_is)
  (case c33 => k_is)
  (case k33 => k_is)
  (case a34 => k_is)
  (case l34 => k_is)
  (case c34 => k_is)
  (case k34 => k_is)
  (case a35 => k_is)
  (case l35 => k_is)
  (case c35 => k_is)
  (case k35 => k_is)
  (case a36 => k_is)
  (case l36 => k_is)
  (case c36 => k_is)
  (case k36 => k_is)
  (case a37 => k_is)
  (case l37 => k_is)
  (case c37 => k_is)
  (case k37 => k_is)
  (case a38 => k_is)
  (case l38 => k_is)
  (case c38 => k_is)
  (case k38 => k_is)
  (case a39 => k_is)
  (case l39 => k_is)
  (case c39 => k_is)
  (case k39 => k_is)
  (case a40 => k_is)
  (case l40 => k_is)
  (case c40 => k_is)
  (case k40 => k_is)
  (case a41 => k_is)
  (case l41 => k_is)
  (case c41 => k_is)
  (case k41 => k_is)
  (case a42 => k_is)
  (case l42 => k_is)
  (case c42 => k_is)
  (case k42 => k_is)
  (case a43 => k_is)
  (case l43 => k_is)
  (case c43 => k_is)
  (case k43 => k_is)
  (case a44 => k_is)
  (case l44 => k_is)
  (case c44 => k_is)
  (case k44 => k_is)
  (case a45 => k_is)
  (case l45 => k_is)
  (case c45 => k_is)
  (case k45 => k_is)
  (case a46 => k_is)
  (case l46 => k_is)
  (case c46 => k_is)
  (case k46 => k_is)
  (case a47 => k_is)
  (case l47 => k_is)
  (case c47 => k_is)
  (case k47 => k_is)
  (case a48 => k_is)
  (case l48 => k_is)
  (case c48 => k_is)
  (case k48 => k_is)
  (case a49 => k_is)
  (case l49 => k_is)
  (case c49 => k_is)
  (case k49 => k_is)
  (case a50 => k_is)
  (case l50 => k_is)
  (case c50 => k_is)
  (case k50 => k_is)
  (case z0 => k_is)
  (case z1 => k_is)
  (case z2 => k_is)
  (case z3 => k_is)
  (case z4 => k_is)
  (case z5 => k_is)
  (case z6 => k_is)
  (case z7 => k_is)
  (case z8 => k_is)
  (case z9 => k_is)
  (case z10 => k_is)
  (case z11 => k_is)
  (case z12 => k_is)
  (case z13 => k_is)
